package sum

import (
	"bytes"
	"hash/crc32"
	"math"
	"pluvial/api"
	"slices"
	"strings"
	"testing"
)

// some are so many bytes, of all kinds.
func some(n int) []byte {
	b := make([]byte, n)
	state := uint32(n)*2654435761 + 12345
	for i := range b {
		state = state*1664525 + 1013904223
		b[i] = byte(state >> 24)
	}
	return b
}

// lengths are how many bytes are tried: around those by which something changes, and some more.
func lengths() []int {
	return []int{0, 1, 2, 3, 4, 5, 7, 8, 9, 15, 16, 17, 255, 256, 257, 300, 1000, 65535, 65536, 70000}
}

// oneByOne is the sum as the document tells it, bit by bit, by a table of powers.
func oneByOne(b []byte) uint32 {
	var powers uint32
	for _, n := range []int{26, 23, 22, 16, 12, 11, 10, 8, 7, 5, 4, 2, 1, 0} {
		powers |= 1 << n
	}
	// Here the highest power is the highest bit.
	sum := uint32(math.MaxUint32)
	for _, c := range b {
		for bit := range 8 {
			off := sum>>31 ^ uint32(c)>>bit&1
			sum <<= 1
			if off == 1 {
				sum ^= powers
			}
		}
	}
	var turned uint32
	for bit := range 32 {
		turned |= sum >> bit & 1 << (31 - bit)
	}
	return ^turned
}

// P3.1

func TestOfTold(t *testing.T) {
	for _, c := range []struct {
		s    string
		want uint32
	}{
		{"", 0},
		{"123456789", 3421780262},
		{"a", 0xe8b7be43},
		{"abc", 0x352441c2},
		{"The quick brown fox jumps over the lazy dog", 0x414fa339},
		{"\x00", 0xd202ef8d},
		{"\xff", 0xff000000},
		{"\x00\x00\x00\x00", 0x2144df1c},
		{"\xff\xff\xff\xff", 0xffffffff},
		{strings.Repeat("\x00", 32), 0x190a55ad},
	} {
		if got := Of([]byte(c.s)); got != c.want {
			t.Errorf("Of(%q) = %#x; want %#x", c.s, got, c.want)
		}
	}
}

func TestOf(t *testing.T) {
	for n := range 256 {
		for _, b := range [][]byte{{byte(n)}, {0, byte(n)}, {byte(n), 0x5a, 7}} {
			if got, want := Of(b), oneByOne(b); got != want || want != crc32.ChecksumIEEE(b) {
				t.Errorf("Of(%x) = %#x; want %#x", b, got, want)
			}
		}
	}
	for _, n := range lengths() {
		b := some(n)
		if got, want := Of(b), oneByOne(b); got != want || want != crc32.ChecksumIEEE(b) {
			t.Errorf("Of(%d bytes) = %#x; want %#x", n, got, want)
		}
	}
}

func TestOfNothing(t *testing.T) {
	for _, l := range [][][]byte{nil, {}, {nil}, {{}}, {nil, {}, nil}} {
		if got := Of(l...); got != 0 {
			t.Errorf("Of(%v) = %#x", l, got)
		}
	}
}

func TestOfParts(t *testing.T) {
	b := some(40)
	want := Of(b)
	for i := range len(b) + 1 {
		for k := i; k <= len(b); k++ {
			if got := Of(b[:i], b[i:k], b[k:]); got != want {
				t.Fatalf("cut at %d and %d: %#x; want %#x", i, k, got, want)
			}
			if got := Of(nil, b[:i], []byte{}, b[i:k], nil, b[k:], nil); got != want {
				t.Fatalf("cut at %d and %d, with empty parts: %#x; want %#x", i, k, got, want)
			}
		}
	}
	var l [][]byte
	for i := range b {
		l = append(l, b[i:i+1])
	}
	if got := Of(l...); got != want {
		t.Errorf("byte by byte: %#x; want %#x", got, want)
	}
	// One part behind the other, as they come.
	if Of([]byte("12345"), []byte("6789")) != 3421780262 || Of([]byte("6789"), []byte("12345")) == 3421780262 {
		t.Error("the order of two parts")
	}
}

func TestOfChangesNothing(t *testing.T) {
	room := some(30)
	was := slices.Clone(room)
	l := [][]byte{room[:10:10], room[10:12], nil}
	for range 2 {
		if got, want := Of(l...), crc32.ChecksumIEEE(was[:12]); got != want {
			t.Errorf("%#x; want %#x", got, want)
		}
	}
	if !bytes.Equal(room, was) || len(l) != 3 || len(l[0]) != 10 || len(l[1]) != 2 || l[2] != nil {
		t.Error("Of changed what it was handed")
	}
}

func numbers() []uint32 {
	l := []uint32{0, 1, 0x01020304, 0xfffefdfc, 0xa55a0ff0, 3421780262, math.MaxUint32}
	for bit := range 32 {
		l = append(l, 1<<bit, 1<<bit-1, ^uint32(1<<bit))
	}
	return l
}

func TestFour(t *testing.T) {
	for _, c := range []struct {
		n    uint32
		want []byte
	}{
		{0, []byte{0, 0, 0, 0}},
		{1, []byte{1, 0, 0, 0}},
		{255, []byte{255, 0, 0, 0}},
		{256, []byte{0, 1, 0, 0}},
		{0x04030201, []byte{1, 2, 3, 4}},
		{1 << 31, []byte{0, 0, 0, 128}},
		{math.MaxUint32, []byte{255, 255, 255, 255}},
	} {
		if got := Four(c.n); !bytes.Equal(got, c.want) {
			t.Errorf("Four(%d) = %d; want %d", c.n, got, c.want)
		}
		if got := Number(c.want); got != c.n {
			t.Errorf("Number(%d) = %d; want %d", c.want, got, c.n)
		}
	}
	for _, n := range numbers() {
		if b := Four(n); len(b) != 4 || Number(b) != n {
			t.Errorf("Four(%d) = %d, a number %d", n, b, Number(b))
		}
	}
	first := Four(7)
	second := Four(7)
	first[0] = 9
	if second[0] != 7 || Four(7)[0] != 7 {
		t.Error("Four's bytes aren't new")
	}
}

func TestNumber(t *testing.T) {
	for _, c := range []struct {
		b    []byte
		want uint32
	}{
		{nil, 0},
		{[]byte{}, 0},
		{[]byte{0}, 0},
		{[]byte{5}, 5},
		{[]byte{255}, 255},
		{[]byte{0, 1}, 256},
		{[]byte{1, 2}, 0x0201},
		{[]byte{1, 2, 3}, 0x030201},
		{[]byte{0, 0, 255}, 0xff0000},
		{[]byte{1, 2, 3, 4}, 0x04030201},
		{[]byte{1, 2, 3, 4, 5}, 0x04030201},
		{[]byte{0, 0, 0, 0, 255, 255, 255, 255}, 0},
	} {
		if got := Number(c.b); got != c.want {
			t.Errorf("Number(%d) = %#x; want %#x", c.b, got, c.want)
		}
	}
	// What stands behind the end counts as 0, whatever there is.
	room := []byte{1, 2, 3, 4, 5}
	if got := Number(room[:2]); got != 0x0201 || !bytes.Equal(room, []byte{1, 2, 3, 4, 5}) {
		t.Error(got, room)
	}
}

// P3.2

// sealed are sealed bytes, laid by hand.
func sealed(b []byte) []byte {
	n := len(b)
	l := []byte{byte(n), byte(n >> 8), byte(n >> 16), byte(n >> 24)}
	s := crc32.ChecksumIEEE(append(slices.Clone(l), b...))
	l = append(l, byte(s), byte(s>>8), byte(s>>16), byte(s>>24))
	return append(l, b...)
}

func TestSealTold(t *testing.T) {
	if got := Seal(nil); !bytes.Equal(got, []byte{0, 0, 0, 0, 0x1c, 0xdf, 0x44, 0x21}) {
		t.Errorf("of nothing: %x", got)
	}
	s := Of([]byte{2, 0, 0, 0, 'h', 'i'})
	want := []byte{2, 0, 0, 0, byte(s), byte(s >> 8), byte(s >> 16), byte(s >> 24), 'h', 'i'}
	if got := Seal([]byte("hi")); !bytes.Equal(got, want) {
		t.Errorf("hi: %x; want %x", got, want)
	}
}

func TestSeal(t *testing.T) {
	for _, n := range lengths() {
		b := some(n)
		if got := Seal(b); !bytes.Equal(got, sealed(b)) {
			t.Errorf("of %d bytes others than they should be", n)
		}
	}
	if !bytes.Equal(Seal(nil), Seal([]byte{})) {
		t.Error("nil and empty are not one")
	}
}

// checkOpen asserts what Open answers; with an error nothing else.
func checkOpen(t *testing.T, b, wantInner, wantRest []byte, want api.Errno) {
	t.Helper()
	was := slices.Clone(b)
	inner, rest, e := Open(b)
	if !bytes.Equal(inner, wantInner) || !bytes.Equal(rest, wantRest) || e != want {
		t.Errorf("Open(%x) = %x, %x, %d; want %x, %x, %d", b, inner, rest, e, wantInner, wantRest, want)
	}
	if !bytes.Equal(b, was) {
		t.Error("Open changed what it was handed")
	}
}

func TestOpen(t *testing.T) {
	for _, n := range lengths() {
		b := some(n)
		for _, rest := range [][]byte{nil, {0}, {1, 2, 3}, some(100), sealed(nil), sealed([]byte("behind"))} {
			checkOpen(t, slices.Concat(sealed(b), rest), b, rest, api.OK)
		}
	}
	checkOpen(t, []byte{0, 0, 0, 0, 0x1c, 0xdf, 0x44, 0x21}, nil, nil, api.OK)
}

func TestOpenWrong(t *testing.T) {
	for n := range 8 {
		checkOpen(t, some(n), nil, nil, api.ErrShort)
		checkOpen(t, make([]byte, n), nil, nil, api.ErrShort)
		checkOpen(t, sealed(nil)[:n], nil, nil, api.ErrShort)
	}
	checkOpen(t, nil, nil, nil, api.ErrShort)
	// Eight noughts say that there are none, by another sum.
	checkOpen(t, make([]byte, 8), nil, nil, api.ErrSum)
	checkOpen(t, make([]byte, 100), nil, nil, api.ErrSum)
	// More than there are, by one, by many, by as many as can be said: and then whatever the sum.
	for _, more := range []uint32{4, 5, 256, 1 << 16, 1 << 24, math.MaxInt32, 1 << 31, math.MaxUint32 - 8, math.MaxUint32} {
		long := Four(more)
		checkOpen(t, slices.Concat(long, Four(Of(long, []byte{1, 2, 3})), []byte{1, 2, 3}), nil, nil, api.ErrShort)
		checkOpen(t, slices.Concat(long, Four(0), []byte{1, 2, 3}), nil, nil, api.ErrShort)
		checkOpen(t, slices.Concat(long, Four(0)), nil, nil, api.ErrShort)
	}
	// Fewer than were sealed: their sum is another one.
	b := sealed([]byte{1, 2, 3})
	for long := range byte(3) {
		b[0] = long
		checkOpen(t, b, nil, nil, api.ErrSum)
	}
	// The sum of the bytes alone doesn't do.
	checkOpen(t, slices.Concat(Four(2), Four(Of([]byte("hi"))), []byte("hi")), nil, nil, api.ErrSum)
}

// What is handed out is new: nothing of it is what was handed in, nor in one another.
func TestOpenIsNew(t *testing.T) {
	room := slices.Concat(sealed([]byte("inner")), []byte("rest, and more"))
	was := slices.Clone(room)
	b := room[:13+4]
	inner, rest, e := Open(b)
	if e != api.OK || string(inner) != "inner" || string(rest) != "rest" {
		t.Fatal(inner, rest, e)
	}
	_ = append(inner, "xxxxxxxx"...)
	_ = append(rest, "xxxxxxxx"...)
	inner[0], rest[0] = '-', '-'
	if !bytes.Equal(room, was) || string(inner) != "-nner" || string(rest) != "-est" {
		t.Errorf("%q, %q, %q", room, inner, rest)
	}
	room[8], room[13] = '+', '+'
	if string(inner) != "-nner" || string(rest) != "-est" {
		t.Errorf("%q, %q", inner, rest)
	}
}

func TestSealIsNew(t *testing.T) {
	room := []byte("inner, and more")
	b := room[:5]
	first := Seal(b)
	second := Seal(b)
	first[8] = '-'
	_ = append(first, "xxxxxxxx"...)
	if string(room) != "inner, and more" || string(second[8:]) != "inner" {
		t.Errorf("%q, %q", room, second)
	}
	room[0] = '+'
	if string(second[8:]) != "inner" {
		t.Errorf("%q", second)
	}
}

// checkAll asserts what All answers: also with an error what could be opened ahead of it.
func checkAll(t *testing.T, b []byte, want [][]byte, wantLong int, wantE api.Errno) {
	t.Helper()
	was := slices.Clone(b)
	l, long, e := All(b)
	if !slices.EqualFunc(l, want, bytes.Equal) || long != wantLong || e != wantE {
		t.Errorf("All(%x) = %x, %d, %d; want %x, %d, %d", b, l, long, e, want, wantLong, wantE)
	}
	if !bytes.Equal(b, was) {
		t.Error("All changed what it was handed")
	}
}

// lists are what is sealed one behind the other.
func lists() [][][]byte {
	return [][][]byte{
		nil,
		{nil},
		{[]byte("one")},
		{nil, nil, nil},
		{[]byte("one"), nil, []byte("two")},
		{some(300), some(1), some(7), some(8), nil},
	}
}

func sealAll(l [][]byte) []byte {
	var b []byte
	for _, one := range l {
		b = append(b, sealed(one)...)
	}
	return b
}

func TestAll(t *testing.T) {
	checkAll(t, []byte{}, nil, 0, api.OK)
	for _, l := range lists() {
		b := sealAll(l)
		checkAll(t, b, l, len(b), api.OK)
		for _, behind := range [][]byte{{0}, {1, 2, 3, 4, 5, 6, 7}, sealed(some(20))[:27], append(Four(1), 0, 0, 0, 0)} {
			checkAll(t, slices.Concat(b, behind), l, len(b), api.ErrShort)
		}
		other := sealed([]byte("other"))
		other[10]++
		for _, behind := range [][]byte{make([]byte, 8), other, slices.Concat(other, sealed(nil))} {
			checkAll(t, slices.Concat(b, behind), l, len(b), api.ErrSum)
		}
	}
}

// Whatever Open answers, one by one, All does.
func TestAllAsOpen(t *testing.T) {
	b := slices.Concat(sealed([]byte("one")), sealed(nil), sealed([]byte("three")))
	for cut := range len(b) + 1 {
		for _, turn := range []byte{0, 1, 0x80, 0xff} {
			for at := range cut {
				c := slices.Clone(b[:cut])
				c[at] ^= turn
				var want [][]byte
				var e api.Errno
				rest := c
				for len(rest) > 0 {
					var inner, behind []byte
					if inner, behind, e = Open(rest); e != api.OK {
						break
					}
					want, rest = append(want, inner), behind
				}
				checkAll(t, c, want, len(c)-len(rest), e)
			}
		}
	}
}

func TestAllIsNew(t *testing.T) {
	room := slices.Concat(sealAll([][]byte{[]byte("one"), []byte("two")}), []byte("more"))
	was := slices.Clone(room)
	l, long, e := All(room[:22])
	if e != api.OK || long != 22 || len(l) != 2 {
		t.Fatal(l, long, e)
	}
	_ = append(l[0], "xxxxxxxxxxxxxxxxxxxx"...)
	_ = append(l[1], "xxxxxxxxxxxxxxxxxxxx"...)
	l[0][0] = '-'
	if !bytes.Equal(room, was) || string(l[0]) != "-ne" || string(l[1]) != "two" {
		t.Errorf("%q, %q", room, l)
	}
	room[19] = '+'
	if string(l[1]) != "two" {
		t.Errorf("%q", l)
	}
}

// Many small ones end soon: what is left isn't copied each time.
func TestAllMany(t *testing.T) {
	const many = 20000
	b := bytes.Repeat(sealed(some(20)), many)
	l, long, e := All(b)
	if len(l) != many || long != len(b) || e != api.OK {
		t.Error(len(l), long, e)
	}
}

// P3.3

func TestOpenedAsSealed(t *testing.T) {
	for _, n := range lengths() {
		b := some(n)
		checkOpen(t, Seal(b), b, nil, api.OK)
		checkOpen(t, append(Seal(b), Seal(Seal(b))...), b, Seal(Seal(b)), api.OK)
	}
	for _, l := range lists() {
		var b []byte
		for _, one := range l {
			b = append(b, Seal(one)...)
		}
		checkAll(t, b, l, len(b), api.OK)
	}
}

func TestTurned(t *testing.T) {
	for _, n := range []int{0, 1, 2, 9, 40} {
		b := Seal(some(n))
		for i := 4; i < len(b); i++ {
			for turn := 1; turn < 256; turn++ {
				b[i] ^= byte(turn)
				inner, rest, e := Open(b)
				if e != api.ErrSum || len(inner) != 0 || len(rest) != 0 {
					t.Fatalf("%d bytes, the %d. turned by %x: %x, %x, %d", n, i, turn, inner, rest, e)
				}
				b[i] ^= byte(turn)
			}
		}
	}
}

func TestBeginnings(t *testing.T) {
	for _, n := range []int{0, 1, 2, 9, 300} {
		b := Seal(some(n))
		checkOpen(t, b[:0], nil, nil, api.ErrShort)
		for short := 1; short < len(b); short++ {
			// All that was sealed stands in the room behind: it plays no part.
			checkOpen(t, b[:short], nil, nil, api.ErrShort)
			checkAll(t, slices.Concat(b, b)[:len(b)+short], [][]byte{some(n)}, len(b), api.ErrShort)
		}
	}
}
