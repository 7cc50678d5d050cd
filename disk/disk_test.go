package disk

import (
	"bytes"
	"math"
	"math/rand/v2"
	"pluvial/api"
	"slices"
	"strconv"
	"strings"
	"testing"
)

// The tests hold the package against answers told one by one, and against files that are numbered and kept as texts.
// A disk is told by its names and their bytes: a=xy b=.

const most = 1 << 20

// call does what a word says: a+xy appends, a! makes a file's bytes sure, a>b renames, a- takes away, ! makes the names sure.
func call(d *Disk, word string) api.Errno {
	if word == "!" {
		return d.SyncNames()
	}
	i := strings.IndexAny(word, "+!>-")
	name, rest := word[:i], word[i+1:]
	switch word[i] {
	case '+':
		return d.Append(name, []byte(rest))
	case '!':
		return d.Sync(name)
	case '>':
		return d.Rename(name, rest)
	}
	return d.Remove(name)
}

// made is a new disk.
func made(t *testing.T, room int) *Disk {
	t.Helper()
	d, e := New(room)
	if d == nil || e != api.OK {
		t.Fatalf("New(%d) is %v, %d", room, d, e)
	}
	return d
}

// with is a disk on which all is done that words say.
func with(t *testing.T, room int, words string) *Disk {
	t.Helper()
	d := made(t, room)
	do(t, d, words)
	return d
}

// do does all that words say; none of it is refused.
func do(t *testing.T, d *Disk, words string) {
	t.Helper()
	for _, w := range strings.Fields(words) {
		check(t, w, call(d, w), api.OK)
	}
}

// check asserts what a call answers.
func check(t *testing.T, what string, got, want api.Errno) {
	t.Helper()
	if got != want {
		t.Errorf("%s is %d; want %d", what, got, want)
	}
}

// tell tells a disk.
func tell(t *testing.T, d *Disk) string {
	t.Helper()
	var l []string
	for _, name := range d.Names() {
		b, e := d.Read(name)
		check(t, "Read of "+name, e, api.OK)
		l = append(l, name+"="+string(b))
	}
	return strings.Join(l, " ")
}

// is asserts what a disk has.
func is(t *testing.T, what string, d *Disk, want string) {
	t.Helper()
	if got := tell(t, d); got != want {
		t.Errorf("%s: %s; want %s", what, got, want)
	}
	used := 0
	for _, one := range strings.Fields(want) {
		used += len(one) - strings.Index(one, "=") - 1
	}
	if d.Used() != used {
		t.Errorf("%s: %s: Used is %d; want %d", what, want, d.Used(), used)
	}
}

// steps asserts how many steps there were.
func steps(t *testing.T, what string, d *Disk, want int) {
	t.Helper()
	if got := d.Steps(); got != want {
		t.Errorf("%s: %d steps; want %d", what, got, want)
	}
}

// none asserts that a file can't be read, and that nothing stands beside the error.
func none(t *testing.T, d *Disk, name string, want api.Errno) {
	t.Helper()
	if b, e := d.Read(name); len(b) != 0 || e != want {
		t.Errorf("Read of %q is %q, %d; want %d", name, b, e, want)
	}
}

// keeps are what a text of 0 and 1 says.
func keeps(s string) []bool {
	var l []bool
	for _, c := range s {
		l = append(l, c == '1')
	}
	return l
}

// full is so many bytes.
func full(n int) []byte { return bytes.Repeat([]byte{'f'}, n) }

// P13.1

func TestNew(t *testing.T) {
	for _, room := range []int{0, 1, 1000, most - 1, most} {
		d := made(t, room)
		is(t, "a new disk", d, "")
		steps(t, "a new disk", d, 0)
		if d.Down() {
			t.Error("a new disk has no power")
		}
		check(t, "one byte more", d.Append("a", full(room+1)), api.ErrFull)
		is(t, "behind one byte more", d, "")
		check(t, "just the room", d.Append("a", full(room)), api.OK)
		if d.Used() != room {
			t.Errorf("%d of %d are used", d.Used(), room)
		}
		check(t, "nothing more", d.Append("a", nil), api.OK)
		check(t, "an empty file more", d.Append("b", nil), api.OK)
		check(t, "one more", d.Append("a", full(1)), api.ErrFull)
		check(t, "one more elsewhere", d.Append("c", full(1)), api.ErrFull)
		if d.Used() != room || !slices.Equal(d.Names(), []string{"a", "b"}) {
			t.Errorf("a full disk has %q, %d bytes", d.Names(), d.Used())
		}
	}
	for _, room := range []int{-1, most + 1, math.MinInt, math.MaxInt} {
		if d, e := New(room); d != nil || e != api.ErrLimit {
			t.Errorf("New(%d) is %v, %d", room, d, e)
		}
	}
}

func TestName(t *testing.T) {
	yes := []string{"a", "log-000001", "new", ".", "..", " ", "\\", "\n", "\x01", "\x2e", "\x30", "0", "\xff", "ä", strings.Repeat("n", 63), strings.Repeat("n", 64), strings.Repeat("ä", 32)}
	no := []string{"", "/", "\x00", "a/", "/a", "a/b", "a\x00", "\x00a", "a\x00b", strings.Repeat("n", 65), strings.Repeat("ä", 33), strings.Repeat("n", 1000), strings.Repeat("n", 63) + "/", strings.Repeat("n", 63) + "\x00"}
	for _, s := range yes {
		d := with(t, 9, "a+a")
		if !Name(s) {
			t.Errorf("%q is no name", s)
		}
		check(t, "Rename to "+s, d.Rename("a", s), api.OK)
		check(t, "Append to "+s, d.Append(s, []byte("b")), api.OK)
		if b, e := d.Read(s); string(b) != "ab" || e != api.OK || !slices.Equal(d.Names(), []string{s}) {
			t.Errorf("%q has %q, %d among %q", s, b, e, d.Names())
		}
		check(t, "Sync of "+s, d.Sync(s), api.OK)
		check(t, "Remove of "+s, d.Remove(s), api.OK)
		is(t, "behind all", d, "")
	}
	for _, s := range no {
		d := with(t, 9, "a+a")
		if Name(s) {
			t.Errorf("%q is a name", s)
		}
		check(t, "Append to "+s, d.Append(s, []byte("b")), api.ErrArg)
		check(t, "Append of nothing to "+s, d.Append(s, nil), api.ErrArg)
		check(t, "Rename to "+s, d.Rename("a", s), api.ErrArg)
		check(t, "Rename of "+s, d.Rename(s, "b"), api.ErrNone)
		check(t, "Rename of "+s+" to itself", d.Rename(s, s), api.ErrNone)
		check(t, "Sync of "+s, d.Sync(s), api.ErrNone)
		check(t, "Remove of "+s, d.Remove(s), api.ErrNone)
		none(t, d, s, api.ErrNone)
		is(t, "behind all of "+s, d, "a=a")
	}
	for c := range 256 {
		if want := c != 0 && c != '/'; Name("x"+string([]byte{byte(c)})+"y") != want {
			t.Errorf("the byte %d in a name: %t", c, !want)
		}
	}
}

func TestFiles(t *testing.T) {
	for _, c := range []struct{ words, want string }{
		{"", ""},
		{"a+", "a="},
		{"a+ab", "a=ab"},
		{"a+ab a+cd", "a=abcd"},
		{"a+ab a+", "a=ab"},
		{"a+ a+ab", "a=ab"},
		{"b+1 a+2 c+3 B+4 aa+5 b+6", "B=4 a=2 aa=5 b=16 c=3"},
		{"a+ab a- ", ""},
		{"a+ab a- a+c", "a=c"},
		{"a+ab b+c a-", "b=c"},
		{"a+ab a>b", "b=ab"},
		{"a+ab b+c a>b", "b=ab"},
		{"a+ab b+c b>a", "a=c"},
		{"a+ab a>a", "a=ab"},
		{"a+ab a>a a+c", "a=abc"},
		{"a+ab a>b a+c", "a=c b=ab"},
		{"a+ab a>b b+c", "b=abc"},
		{"a+ab b+c c+d a>b b>c", "c=ab"},
		{"a+1 b+2 a>c b>a c>b", "a=2 b=1"},
		{"a+ab a! ! a!", "a=ab"},
		{"! !", ""},
		{"a+ab a! ! a-", ""},
		{"a+ab a! ! a- a+c", "a=c"},
		{"a+ab ! a>b", "b=ab"},
	} {
		d := with(t, 9, c.words)
		is(t, c.words, d, c.want)
		steps(t, c.words, d, len(strings.Fields(c.words)))
	}
}

// What isn't there: nothing has changed but how many steps there were.
func TestNone(t *testing.T) {
	for _, was := range []string{"", "b+xy", "b+xy b! !", "a+z a! ! a- b+xy"} {
		d := with(t, 9, was)
		all := tell(t, d)
		n := d.Steps()
		for i, word := range []string{"a!", "a-", "a>b", "a>c", "a>a", "a>", "a>/", "a>" + strings.Repeat("n", 65)} {
			check(t, word, call(d, word), api.ErrNone)
			is(t, was+", "+word, d, all)
			steps(t, word, d, n+i+1)
		}
		none(t, d, "a", api.ErrNone)
		none(t, d, "", api.ErrNone)
		steps(t, "Read", d, n+8)
	}
	d := with(t, 9, "a+ab b+c a>b")
	none(t, d, "a", api.ErrNone)
	check(t, "what had the name", call(d, "a-"), api.ErrNone)
}

func TestRoom(t *testing.T) {
	d := with(t, 5, "a+abc b+d")
	check(t, "two more of one", call(d, "a+ef"), api.ErrFull)
	check(t, "two more of one, anew", call(d, "c+ef"), api.ErrFull)
	is(t, "refused", d, "a=abc b=d")
	do(t, d, "c+e c+ a+ d+")
	is(t, "to the byte", d, "a=abc b=d c=e d=")
	check(t, "one byte more", call(d, "b+f"), api.ErrFull)
	check(t, "a name that is none on a full disk", call(d, "/+f"), api.ErrArg)
	do(t, d, "a! ! a-")
	is(t, "with room again", d, "b=d c=e d=")
	do(t, d, "d+xyz")
	check(t, "one byte more", call(d, "e+f"), api.ErrFull)
	do(t, d, "d>c")
	is(t, "what had the name is gone", d, "b=d c=xyz")
	do(t, d, "b+f")
	check(t, "one byte more", call(d, "b+g"), api.ErrFull)
}

func TestManyFiles(t *testing.T) {
	d := made(t, 1000)
	var names []string
	for i := range 256 {
		names = append(names, "f"+strconv.Itoa(1000-i))
		check(t, "file "+strconv.Itoa(i), d.Append(names[i], []byte("x")), api.OK)
	}
	slices.Sort(names)
	if !slices.Equal(d.Names(), names) {
		t.Errorf("256 files: %q", d.Names())
	}
	check(t, "one more", d.Append("one", []byte("x")), api.ErrFull)
	check(t, "an empty one more", d.Append("one", nil), api.ErrFull)
	check(t, "a name that is none", d.Append("a/b", nil), api.ErrArg)
	check(t, "one that is there", d.Append("f900", []byte("y")), api.OK)
	check(t, "one that is there, with nothing", d.Append("f900", nil), api.OK)
	check(t, "Rename", d.Rename("f900", "one"), api.OK)
	check(t, "one that isn't there any more", d.Append("f900", nil), api.ErrFull)
	check(t, "Remove", d.Remove("f901"), api.OK)
	check(t, "one again", d.Append("f900", nil), api.OK)
	check(t, "one more again", d.Append("f901", nil), api.ErrFull)
	check(t, "Rename to one that is there", d.Rename("one", "f902"), api.OK)
	if len(d.Names()) != 255 || d.Used() != 255 {
		t.Errorf("%d names, %d bytes", len(d.Names()), d.Used())
	}
	check(t, "one again", d.Append("f901", nil), api.OK)
}

// P13.2

func TestFuse(t *testing.T) {
	words := strings.Fields("a+x a! ! a>b b+y b- a+ a- b+z ! b! b>a")
	for fuse := range len(words) + 1 {
		d := made(t, 9)
		d.Fuse(fuse)
		want := made(t, 9)
		for i, w := range words {
			e := call(d, w)
			if i < fuse {
				check(t, w, e, api.OK)
				do(t, want, w)
				is(t, w, d, tell(t, want))
			} else {
				check(t, w+" without power", e, api.ErrDown)
			}
			if d.Down() != (i >= fuse) {
				t.Errorf("fuse %d, step %d: Down is %t", fuse, i, d.Down())
			}
			steps(t, w, d, min(i+1, fuse))
		}
		for keep := range 4 {
			k := []bool{keep&1 != 0, keep&2 != 0}
			is(t, "behind a fuse", d.Crash(k, []uint16{9, 9}), tell(t, want.Crash(k, []uint16{9, 9})))
		}
	}
	for _, fuse := range []int{-1, -2, math.MinInt} {
		d := made(t, 9)
		d.Fuse(fuse)
		for range 20 {
			do(t, d, "a+x a! a-")
		}
		steps(t, "no fuse", d, 60)
	}
}

// What is refused is a step, too; what only asks is none.
func TestFuseOfRefused(t *testing.T) {
	refused := map[string]api.Errno{"/+x": api.ErrArg, "+": api.ErrArg, "a+xxxxxxxxxx": api.ErrFull, "b!": api.ErrNone, "b-": api.ErrNone, "b>a": api.ErrNone, "a>/": api.ErrArg, "b>/": api.ErrNone}
	for word, want := range refused {
		d := with(t, 9, "a+x")
		d.Fuse(2)
		for i := range 2 {
			check(t, word, call(d, word), want)
			d.Names()
			d.Read("a")
			d.Read("b")
			d.Used()
			d.Down()
			d.Steps()
			d.Twin()
			d.Crash(nil, nil)
			steps(t, word, d, i+2)
			is(t, word, d, "a=x")
		}
		check(t, word+" without power", call(d, word), api.ErrDown)
		steps(t, word, d, 3)
	}
}

func TestFuseAgain(t *testing.T) {
	d := made(t, 9)
	d.Fuse(2)
	do(t, d, "a+x a+y")
	d.Fuse(1)
	do(t, d, "a+z")
	d.Fuse(0)
	if d.Down() {
		t.Error("the power is gone ahead of a step")
	}
	d.Fuse(-1)
	do(t, d, "a+1 a+2 a+3")
	d.Fuse(math.MaxInt)
	do(t, d, "a+4")
	d.Fuse(0)
	check(t, "a step too many", call(d, "a-"), api.ErrDown)
	d.Fuse(9)
	check(t, "a fuse behind the loss of power", call(d, "a-"), api.ErrDown)
	d.Fuse(-1)
	check(t, "no fuse behind the loss of power", call(d, "a-"), api.ErrDown)
	if !d.Down() {
		t.Error("the power is there again")
	}
	steps(t, "fuses", d, 7)
	is(t, "behind all", d.Crash(keeps("1"), []uint16{7}), "a=xyz1234")
}

func TestWithoutPower(t *testing.T) {
	d := with(t, 4, "a+ab b+c")
	d.Fuse(0)
	if d.Down() || !slices.Equal(d.Names(), []string{"a", "b"}) {
		t.Error("the power is gone ahead of a step")
	}
	check(t, "Append", call(d, "a+x"), api.ErrDown)
	for range 2 {
		for _, word := range strings.Fields("a+x a+ c+ /+x a+xxxxx a! c! a- c- a>b a>c a>/ c>a a>a !") {
			check(t, word+" without power", call(d, word), api.ErrDown)
		}
		for _, name := range []string{"a", "b", "c", "/", ""} {
			none(t, d, name, api.ErrDown)
		}
	}
	if !d.Down() || len(d.Names()) != 0 || d.Used() != 3 {
		t.Errorf("without power: %t, %q, %d", d.Down(), d.Names(), d.Used())
	}
	steps(t, "without power", d, 2)
	twin := d.Twin()
	check(t, "a twin without power", call(twin, "a+x"), api.ErrDown)
	if !twin.Down() || len(twin.Names()) != 0 {
		t.Error("a twin has power")
	}
	none(t, twin, "a", api.ErrDown)
	steps(t, "a twin without power", twin, 2)
	for _, one := range []*Disk{d, twin} {
		is(t, "nothing kept", one.Crash(nil, nil), "")
		is(t, "all kept", one.Crash(keeps("11"), []uint16{2, 1}), "a=ab b=c")
	}
}

// Each call that would do something at the fuse's end has done nothing.
func TestPowerGoesFirst(t *testing.T) {
	for _, word := range strings.Fields("a+x c+x a! a- a>b a>c !") {
		d := with(t, 9, "a+ab b+c")
		d.Fuse(0)
		check(t, word, call(d, word), api.ErrDown)
		is(t, word+", nothing kept", d.Crash(nil, []uint16{9, 9, 9}), "")
		is(t, word+", all kept", d.Crash(keeps("111"), nil), "a= b=")
		is(t, word+", all kept whole", d.Crash(keeps("111"), []uint16{2, 1, 9}), "a=ab b=c")
	}
}

func TestCrash(t *testing.T) {
	for _, c := range []struct {
		words, keep string
		cut         []uint16
		want        string
	}{
		{"", "", nil, ""},
		{"", "111", []uint16{1, 2, 3}, ""},
		// The document's.
		{"a+ab a! ! a+c", "", nil, "a=ab"},
		{"a+ab a! ! a+c", "", []uint16{1}, "a=abc"},
		// Just what isn't sure, one more, and more.
		{"a+ab a! ! a+c", "", []uint16{2}, "a=ab"},
		{"a+ab a! ! a+c", "1", []uint16{3}, "a=abc"},
		{"a+ab a! ! a+c", "0", []uint16{65535}, "a=abc"},
		{"a+ab a! ! a+c", "", []uint16{65534}, "a=ab"},
		{"a+ab a! ! a+cde", "", []uint16{1}, "a=abc"},
		{"a+ab a! ! a+cde", "", []uint16{2}, "a=abcd"},
		{"a+ab a! ! a+cde", "", []uint16{3}, "a=abcde"},
		{"a+ab a! ! a+cde", "", []uint16{4}, "a=ab"},
		{"a+ab a! ! a+cde", "", []uint16{5}, "a=abc"},
		{"a+ab a! ! a+cde", "", []uint16{4003}, "a=abcde"},
		{"a+ab a! !", "", []uint16{0}, "a=ab"},
		{"a+ab a! !", "1", []uint16{7}, "a=ab"},
		// Bytes that are sure, or aren't; names that are, or aren't.
		{"a+ab", "", []uint16{2}, ""},
		{"a+ab", "0", []uint16{2}, ""},
		{"a+ab", "1", nil, "a="},
		{"a+ab", "1", []uint16{1}, "a=a"},
		{"a+ab", "1", []uint16{2}, "a=ab"},
		{"a+ab", "1", []uint16{3}, "a="},
		{"a+ab a!", "", nil, ""},
		{"a+ab a!", "1", nil, "a=ab"},
		{"a+ab !", "", nil, "a="},
		{"a+ab !", "1", []uint16{1}, "a=a"},
		{"a+ab ! a!", "", nil, "a=ab"},
		{"! a+ab a!", "", nil, ""},
		{"a+ ! a+ab a!", "", nil, "a=ab"},
		{"a+ a! !", "", []uint16{5}, "a="},
		{"a+ab a! a+cd a! ! a+e", "", nil, "a=abcd"},
		// Taken away, and made again.
		{"a+ab a! ! a-", "", nil, "a=ab"},
		{"a+ab a! ! a-", "0", nil, "a=ab"},
		{"a+ab a! ! a-", "1", nil, ""},
		{"a+ab a! ! a- !", "", nil, ""},
		{"a+ab a! ! a- a+cd a!", "", nil, "a=ab"},
		{"a+ab a! ! a- a+cd a!", "1", nil, "a=cd"},
		{"a+ab a! ! a- ! a+cd a!", "", nil, ""},
		{"a+ab a! ! a- ! a+cd a!", "1", nil, "a=cd"},
		{"a+ab a! ! a- a+cd a! !", "", nil, "a=cd"},
		{"a+ab a! ! a+c a- a+defg", "", []uint16{1}, "a=abc"},
		{"a+ab a! ! a+c a- a+defg", "1", []uint16{3}, "a=def"},
		{"a+ab a! ! a+c a- a+defg", "1", []uint16{5}, "a="},
		{"a+ab a! ! a- a+cd a! a-", "0", nil, "a=ab"},
		{"a+ab a! ! a- a+cd a! a-", "1", nil, ""},
		{"a+ab a! a-", "0", nil, ""},
		{"a+ab a! a-", "1", nil, ""},
		// Renamed: a has its sure file or none, b what has come or what it had.
		{"a+ab a! ! a>b", "00", nil, "a=ab"},
		{"a+ab a! ! a>b", "01", nil, "a=ab b=ab"},
		{"a+ab a! ! a>b", "10", nil, ""},
		{"a+ab a! ! a>b", "11", nil, "b=ab"},
		{"a+ab a! ! a>b !", "00", nil, "b=ab"},
		{"a+ab a! b+cd b! ! a>b", "00", nil, "a=ab b=cd"},
		{"a+ab a! b+cd b! ! a>b", "01", nil, "a=ab b=ab"},
		{"a+ab a! b+cd b! ! a>b", "10", nil, "b=cd"},
		{"a+ab a! b+cd b! ! a>b", "11", nil, "b=ab"},
		{"a+ab a! b+cd b! ! a>b !", "", nil, "b=ab"},
		{"a+ab b+cd ! a>b", "01", []uint16{1, 1}, "a=a b=a"},
		{"a+ab a! ! a>a", "0", nil, "a=ab"},
		{"a+ab a! ! a>a", "1", nil, "a=ab"},
		{"a+ab a>a", "1", []uint16{2}, "a=ab"},
		// One file by two names: what came to it by the one is the other's, too.
		{"a+ab ! a>b b!", "", nil, "a=ab"},
		{"a+ab ! a>b b+c b! b+d", "", nil, "a=abc"},
		{"a+ab ! a>b b+c b! b+d", "", []uint16{1}, "a=abcd"},
		{"a+ab ! a>b b+c b! b+d", "01", []uint16{1, 1}, "a=abcd b=abcd"},
		{"a+ab ! a>b b+c b! b+d", "01", []uint16{2, 2}, "a=abc b=abc"},
		{"a+x a! b+y b! ! a>c b>a c>b", "00", nil, "a=x b=y"},
		{"a+x a! b+y b! ! a>c b>a c>b", "10", nil, "a=y b=y"},
		{"a+x a! b+y b! ! a>c b>a c>b", "01", nil, "a=x b=x"},
		{"a+x a! b+y b! ! a>c b>a c>b", "11", nil, "a=y b=x"},
		// Which name is the i-th: of all that are there, or are sure, and of no others.
		{"c+56 a+12 b+34 !", "", []uint16{0, 1, 2}, "a= b=3 c=56"},
		{"c+56 a+12 b+34 !", "", []uint16{2, 0, 1}, "a=12 b= c=5"},
		{"c+56 a+12 b+34", "101", []uint16{2, 2, 1}, "a=12 c=5"},
		{"a+12 a! b+34 b! c+5 ! b-", "", []uint16{0, 0, 1}, "a=12 b=34 c=5"},
		{"a+12 a! b+34 b! c+5 ! b-", "010", []uint16{0, 0, 1}, "a=12 c=5"},
		{"a+12 a! b+34 b! c+5 ! b-", "101", []uint16{0, 1}, "a=12 b=34 c="},
		{"a+1 c+3 ! b+2", "010", []uint16{1, 1, 1}, "a=1 b=2 c=3"},
		{"a+1 c+3 ! b+2", "101", []uint16{1, 1, 1}, "a=1 c=3"},
		{"a+1 a! ! a>b b>a c+2 c!", "01", nil, "a=1 c=2"},
		{"a+1 a! ! a>b b>a c+2 c!", "10", nil, "a=1"},
		{"b+1 a+2 b- c+3", "01", []uint16{1, 1}, "c=3"},
		// Fewer and more of both than there are names.
		{"a+1 b+2 c+3", "", []uint16{1, 1, 1}, ""},
		{"a+1 b+2 c+3", "1", []uint16{1, 1, 1}, "a=1"},
		{"a+1 b+2 c+3", "11", []uint16{1}, "a=1 b="},
		{"a+1 b+2 c+3", "111", nil, "a= b= c="},
		{"a+1 b+2 c+3", "11111", []uint16{1, 1, 1, 1, 1, 1}, "a=1 b=2 c=3"},
		{"a+1 b+2 c+3 !", "0001", []uint16{0, 0, 0, 1}, "a= b= c="},
	} {
		d := with(t, 9, c.words)
		was, n := tell(t, d), d.Steps()
		keep, cut := append(keeps(c.keep), true), append(slices.Clone(c.cut), 1)
		got := d.Crash(keep[:len(c.keep)], cut[:len(c.cut)])
		what := c.words + ", " + c.keep
		if !slices.Equal(keep, append(keeps(c.keep), true)) || !slices.Equal(cut, append(slices.Clone(c.cut), 1)) {
			t.Errorf("%s: keep and cut were made %v, %v", what, keep, cut)
		}
		is(t, what, got, c.want)
		is(t, what+", the disk itself", d, was)
		steps(t, what, got, 0)
		steps(t, what+", the disk itself", d, n)
		if got.Down() || d.Down() {
			t.Errorf("%s: there is no power", what)
		}
		// All of that is sure, and each file is one name's alone.
		is(t, what+", and again", got.Crash(keeps("1111"), []uint16{1, 2, 3, 4}), c.want)
		is(t, what+", and again", got.Crash(nil, nil), c.want)
	}
}

// The bytes that aren't sure may be more than a cut can tell.
func TestGreatCut(t *testing.T) {
	for _, c := range []struct {
		long int
		cut  uint16
		want int
	}{
		{65533, 65535, 1}, {65534, 65535, 0}, {65535, 65535, 65535}, {65536, 65535, 65535}, {most - 2, 65535, 65535}, {most - 2, 0, 0}, {300, 300, 300}, {300, 301, 0}, {300, 511, 210},
	} {
		d := with(t, most, "a+ab a! !")
		check(t, "Append", d.Append("a", full(c.long)), api.OK)
		if got := d.Crash(nil, []uint16{c.cut}).Used(); got != 2+c.want {
			t.Errorf("%d bytes, cut %d: %d", c.long, c.cut, got)
		}
	}
}

// Behind a loss of power there is the same room, no fuse, and no step.
func TestBehindCrash(t *testing.T) {
	d := with(t, 4, "a+ab a! !")
	d.Fuse(1)
	got := d.Crash(nil, nil)
	do(t, got, "a! ! b+xy")
	check(t, "more than the room", call(got, "b+z"), api.ErrFull)
	steps(t, "behind a loss of power", got, 4)
	do(t, d, "a!")
	check(t, "the fuse of the disk itself", call(d, "a!"), api.ErrDown)
	is(t, "twice", got.Crash(keeps("01"), []uint16{0, 1}), "a=ab b=x")
	is(t, "thrice", got.Crash(keeps("01"), []uint16{0, 1}).Crash(keeps("00"), nil), "a=ab b=x")
	empty := made(t, 0).Crash(nil, nil)
	check(t, "no room", call(empty, "a+x"), api.ErrFull)
	check(t, "an empty file", call(empty, "a+"), api.OK)
	great := made(t, most).Crash(nil, nil)
	check(t, "all room", great.Append("a", full(most)), api.OK)
	check(t, "one more", great.Append("a", full(1)), api.ErrFull)
}

// What was gone comes again, whether there is room for it or not.
func TestMoreThanRoom(t *testing.T) {
	d := with(t, 4, "a+abcd a! ! a- b+efgh b!")
	got := d.Crash(keeps("01"), nil)
	is(t, "two in the room of one", got, "a=abcd b=efgh")
	check(t, "one more", call(got, "b+i"), api.ErrFull)
	do(t, got, "a-")
	check(t, "one more", call(got, "b+i"), api.ErrFull)
	do(t, got, "b- c+1234")
	is(t, "as much as there is room", got, "c=1234")

	d = made(t, 9)
	for i := range 256 {
		check(t, "a file", d.Append("f"+strconv.Itoa(1000+i), nil), api.OK)
	}
	do(t, d, "! f1000- g+")
	got = d.Crash(append(make([]bool, 256), true), nil)
	if names := got.Names(); len(names) != 257 || names[0] != "f1000" || names[256] != "g" {
		t.Errorf("%d names", len(names))
	}
	check(t, "one more", call(got, "h+"), api.ErrFull)
	do(t, got, "g-")
	check(t, "one more", call(got, "h+"), api.ErrFull)
	do(t, got, "f1000- h+")
}

// Files that were one go their own ways behind a loss of power, and so does the disk itself.
func TestOwnFiles(t *testing.T) {
	d := with(t, 99, "a+abc a! ! a>b")
	got := d.Crash(keeps("01"), nil)
	do(t, got, "a+1 b+2 b+3")
	do(t, d, "b+4")
	is(t, "behind", got, "a=abc1 b=abc23")
	is(t, "itself", d, "b=abc4")
	do(t, got, "a! b-")
	is(t, "behind", got.Crash(nil, nil), "a=abc1 b=abc")
	do(t, d, "!")
	is(t, "itself", d.Crash(nil, []uint16{1}), "b=abc4")
	is(t, "itself", d.Crash(nil, nil), "b=abc")
}

func TestTwin(t *testing.T) {
	for _, words := range []string{"", "a+ab", "a+abc a! ! a>b b+d", "a+abc a! b+x ! a>b", "a+abc a! ! a- a+d", "a+x a! b+y b! ! a>c b>a c>b", "a+ab a! ! a>b a+c"} {
		for _, more := range strings.Fields("a+12 b+34 a! b! a- b- a>b b>a !") {
			d := with(t, 99, words)
			twin := d.Twin()
			is(t, words, twin, tell(t, d))
			steps(t, words, twin, d.Steps())
			alone := with(t, 99, words)
			e := call(twin, more)
			alike(t, words+", the disk itself", d, alone)
			check(t, words+" and "+more, e, call(alone, more))
			alike(t, words+" and "+more, twin, alone)
			call(d, "a+5678")
			call(d, "b+5678")
			alike(t, words+" and "+more+", with the other going on", twin, alone)
		}
	}
}

// alike asserts that two disks of at most two names are one, behind any loss of power, too.
func alike(t *testing.T, what string, got, want *Disk) {
	t.Helper()
	is(t, what, got, tell(t, want))
	steps(t, what, got, want.Steps())
	for keep := range 4 {
		k := []bool{keep&1 != 0, keep&2 != 0}
		for cut := range uint16(4) {
			c := []uint16{cut, cut}
			is(t, what+" and a loss of power", got.Crash(k, c), tell(t, want.Crash(k, c)))
		}
	}
}

func TestTwinsFuse(t *testing.T) {
	d := with(t, 9, "a+ab")
	d.Fuse(2)
	do(t, d, "a+c")
	twin, free := d.Twin(), d.Twin()
	free.Fuse(-1)
	do(t, twin, "a+d")
	check(t, "the twin's fuse", call(twin, "a+e"), api.ErrDown)
	if d.Down() || free.Down() || !twin.Down() {
		t.Error("the power of one is the other's")
	}
	do(t, d, "b+x")
	check(t, "the disk's fuse", call(d, "b+y"), api.ErrDown)
	do(t, free, "c+1 c+2 c+3")
	steps(t, "itself", d, 3)
	steps(t, "the twin", twin, 3)
	steps(t, "the one without a fuse", free, 5)
	is(t, "itself", d.Crash(keeps("11"), []uint16{3, 1}), "a=abc b=x")
	is(t, "the twin", twin.Crash(keeps("1"), []uint16{4}), "a=abcd")
	is(t, "the one without a fuse", free, "a=abc c=123")
	tight := with(t, 2, "a+ab").Twin()
	check(t, "the twin's room", call(tight, "a+c"), api.ErrFull)
	wide := made(t, most).Twin()
	check(t, "the twin's room", wide.Append("a", full(most)), api.OK)
}

func TestNilDisk(t *testing.T) {
	var d *Disk
	for _, word := range strings.Fields("a+x a+ /+x a! a- a>b a>/ a>a !") {
		check(t, word+" of nil", call(d, word), api.ErrNil)
	}
	none(t, d, "a", api.ErrNil)
	none(t, d, "", api.ErrNil)
	for _, fuse := range []int{0, 5, -1} {
		d.Fuse(fuse)
	}
	if d.Used() != 0 || len(d.Names()) != 0 || d.Down() || d.Steps() != 0 {
		t.Errorf("nil: %d, %q, %t, %d", d.Used(), d.Names(), d.Down(), d.Steps())
	}
	if d.Crash(keeps("1"), []uint16{1}) != nil || d.Crash(nil, nil) != nil || d.Twin() != nil {
		t.Error("there is something behind nil")
	}
}

// Of a disk that New didn't make nothing is promised, but that its calls end.
func TestZeroDisk(t *testing.T) {
	for _, fuse := range []int{0, 3, -1} {
		d := new(Disk)
		d.Fuse(fuse)
		for _, one := range []*Disk{d.Twin(), d.Crash(keeps("11"), []uint16{1}), d} {
			for _, word := range strings.Fields("! a! a- a>b a+ a+x a! a>b ! b- ! b!") {
				call(one, word)
				one.Names()
				one.Read("a")
				one.Used()
				one.Crash(keeps("11"), nil).Twin()
				one.Twin().Crash(nil, nil)
			}
		}
	}
}

// What is handed in isn't kept, and what is handed out isn't the disk's.
func TestOwnMemory(t *testing.T) {
	d := made(t, 99)
	b := []byte("abc!")
	check(t, "Append", d.Append("a", b[:3]), api.OK)
	check(t, "Append", d.Append("b", b[:2]), api.OK)
	if string(b) != "abc!" {
		t.Errorf("Append made it %q", b)
	}
	b[0], b[1] = 'x', 'y'
	is(t, "what was appended has changed", d, "a=abc b=ab")
	read, _ := d.Read("a")
	read[0] = 'z'
	// The room behind the end isn't the disk's, either.
	_ = append(read, "zzz"...)
	do(t, d, "a+d")
	again, _ := d.Read("a")
	do(t, d, "a+e a+f b+g")
	if string(again) != "abcd" || string(read) != "zbc" {
		t.Errorf("what was read became %q, %q", read, again)
	}
	names := d.Names()
	names[0] = "q"
	_ = append(names[:1], "r")
	is(t, "names have changed", d, "a=abcdef b=abg")
	own, _ := d.Read("a")
	check(t, "Append of what was read", d.Append("a", own), api.OK)
	own[0] = 'q'
	is(t, "what was read and appended has changed", d, "a=abcdefabcdef b=abg")
	twin, behind := d.Twin(), d.Crash(keeps("11"), []uint16{12, 3})
	for i, one := range []*Disk{d, twin, behind} {
		check(t, "Append", one.Append("a", []byte{byte('0' + i)}), api.OK)
	}
	is(t, "itself", d, "a=abcdefabcdef0 b=abg")
	is(t, "the twin", twin, "a=abcdefabcdef1 b=abg")
	is(t, "behind a loss of power", behind, "a=abcdefabcdef2 b=abg")
}

// P13.3

// text is a file as the model has it.
type text struct {
	bytes string
	sure  int
}

// model is a disk whose files are numbered, in the order in which they were made; names tell a number and 1 more.
type model struct {
	files     []text
	now, sure [2]int
}

// place is where a name stands.
func place(name string) int { return int(name[0] - 'a') }

// do does what a word says, and tells whether it can be.
func (m *model) do(word string) bool {
	if word == "!" {
		m.sure = m.now
		return true
	}
	i := place(word)
	if word[1] == '+' {
		if m.now[i] == 0 {
			m.files = append(m.files, text{})
			m.now[i] = len(m.files)
		}
		m.files[m.now[i]-1].bytes += word[2:]
		return true
	}
	n := m.now[i]
	if n == 0 {
		return false
	}
	switch word[1] {
	case '!':
		m.files[n-1].sure = len(m.files[n-1].bytes)
	case '-':
		m.now[i] = 0
	case '>':
		m.now[i] = 0
		m.now[place(word[2:])] = n
	}
	return true
}

// tell tells the files of names, with so many bytes as long says of each place among names.
func (m *model) tell(files [2]int, long func(i int, f text) int) string {
	var l []string
	i := 0
	for k, n := range files {
		if n > 0 {
			f := m.files[n-1]
			l = append(l, string(rune('a'+k))+"="+f.bytes[:long(i, f)])
		}
		if m.now[k] > 0 || m.sure[k] > 0 {
			i++
		}
	}
	return strings.Join(l, " ")
}

// crash tells what is behind a loss of power.
func (m *model) crash(keep []bool, cut []uint16) string {
	files := m.sure
	i := 0
	for k := range files {
		if m.now[k] == 0 && m.sure[k] == 0 {
			continue
		}
		if keep[i] {
			files[k] = m.now[k]
		}
		i++
	}
	return m.tell(files, func(i int, f text) int {
		return f.sure + int(cut[i])%(len(f.bytes)-f.sure+1)
	})
}

// all is as many bytes as a file has.
func all(_ int, f text) int { return len(f.bytes) }

// All that five words can do to two names, and all that may be behind it.
func TestAllWords(t *testing.T) {
	words := strings.Fields("a+x b+yz a! b! a>b b>a a- b- ! a>a")
	var from func(done []string)
	from = func(done []string) {
		d, m := made(t, 99), &model{}
		for _, w := range done {
			want := api.ErrNone
			if m.do(w) {
				want = api.OK
			}
			check(t, strings.Join(done, " "), call(d, w), want)
		}
		what := strings.Join(done, " ")
		is(t, what, d, m.tell(m.now, all))
		for keep := range 4 {
			k := []bool{keep&1 != 0, keep&2 != 0}
			// Of a file that has two names nothing is asked by which of two unlike cuts it is cut.
			for _, cut := range []uint16{0, 1, 2, 3} {
				c := []uint16{cut, cut}
				if got, want := tell(t, d.Crash(k, c)), m.crash(k, c); got != want {
					t.Fatalf("%s, behind %v %v: %s; want %s", what, k, c, got, want)
				}
			}
			if m.now[0] != m.sure[1] && m.now[1] != m.sure[0] {
				c := []uint16{1, 2}
				if got, want := tell(t, d.Crash(k, c)), m.crash(k, c); got != want {
					t.Fatalf("%s, behind %v %v: %s; want %s", what, k, c, got, want)
				}
			}
		}
		if len(done) < 5 {
			for _, w := range words {
				from(append(slices.Clip(done), w))
			}
		}
	}
	from(nil)
}

// history is what is known of a disk by what was told to it, whatever its files are.
type history struct {
	ever   []string          // all bytes that a file ever had
	bytes  map[string]string // of each name, now
	synced map[string]string // of each name, when that was last told to be sure
	still  map[string]bool   // the name is as it was when names were told to be sure
}

// note notes what was done.
func (h *history) note(word string) {
	if word == "!" {
		h.still = map[string]bool{}
		for name := range h.bytes {
			h.still[name] = true
		}
		return
	}
	name := word[:1]
	switch word[1] {
	case '+':
		h.bytes[name] += word[2:]
		h.ever = append(h.ever, h.bytes[name])
	case '!':
		h.synced[name] = h.bytes[name]
	case '>':
		if to := word[2:]; to != name {
			h.move(name, to)
		}
	case '-':
		h.move(name, "")
	}
}

// move moves a name's bytes to another name, or away.
func (h *history) move(name, to string) {
	bytes, synced := h.bytes[name], h.synced[name]
	for _, one := range []string{name, to} {
		delete(h.bytes, one)
		delete(h.synced, one)
		delete(h.still, one)
	}
	if to != "" {
		h.bytes[to], h.synced[to] = bytes, synced
	}
}

// check asserts what lasts behind a loss of power.
func (h *history) check(t *testing.T, what string, d *Disk) {
	t.Helper()
	for name := range h.still {
		b, e := d.Read(name)
		if e != api.OK || !strings.HasPrefix(string(b), h.synced[name]) || !strings.HasPrefix(h.bytes[name], string(b)) {
			t.Fatalf("%s: %s is %q, %d behind a loss of power; sure were %q of %q", what, name, b, e, h.synced[name], h.bytes[name])
		}
	}
	for _, name := range d.Names() {
		b, _ := d.Read(name)
		if len(b) > 0 && !slices.ContainsFunc(h.ever, func(s string) bool { return strings.HasPrefix(s, string(b)) }) {
			t.Fatalf("%s: %s has %q, which no file ever had", what, name, b)
		}
	}
}

// anew is the history of a disk behind a loss of power: all of it is sure.
func anew(d *Disk, ever []string) *history {
	h := &history{ever: ever, bytes: map[string]string{}, synced: map[string]string{}, still: map[string]bool{}}
	for _, name := range d.Names() {
		b, _ := d.Read(name)
		h.bytes[name], h.synced[name], h.still[name] = string(b), string(b), true
	}
	return h
}

// drawWord is something to be done to one of five names.
func drawWord(r *rand.Rand, n int) string {
	name := string(rune('a' + r.IntN(5)))
	switch r.IntN(9) {
	case 0, 1, 2:
		// Each time other bytes: what is whose can be told.
		return name + "+" + strconv.Itoa(n) + "."[:r.IntN(2)]
	case 3, 4:
		return name + "!"
	case 5, 6:
		return name + ">" + string(rune('a'+r.IntN(5)))
	case 7:
		return name + "-"
	}
	return "!"
}

// drawLoss is what stays behind a loss of power.
func drawLoss(r *rand.Rand) ([]bool, []uint16) {
	keep, cut := make([]bool, r.IntN(12)), make([]uint16, r.IntN(12))
	for i := range keep {
		keep[i] = r.IntN(2) == 0
	}
	for i := range cut {
		cut[i] = uint16(r.IntN(9))
	}
	return keep, cut
}

func TestWhatLasts(t *testing.T) {
	r := rand.New(rand.NewPCG(13, 3))
	for range 2000 {
		d := made(t, 9999)
		h := anew(d, nil)
		what := ""
		for n := range 40 {
			word := drawWord(r, n)
			what += " " + word
			if call(d, word) == api.OK {
				h.note(word)
			}
			for name, b := range h.bytes {
				if got, e := d.Read(name); string(got) != b || e != api.OK {
					t.Fatalf("%s: %s is %q, %d; want %q", what, name, got, e, b)
				}
			}
			keep, cut := drawLoss(r)
			behind := d.Crash(keep, cut)
			h.check(t, what, behind)
			if r.IntN(20) == 0 {
				d, h = behind, anew(behind, h.ever)
				what += " .."
			}
		}
	}
}
