package span

import (
	"math"
	"math/rand/v2"
	"pluvial/api"
	"pluvial/bits"
	"slices"
	"strconv"
	"strings"
	"testing"
)

// The tests hold the package against texts: of the letters # and . for what has an index and what hasn't, and of 0 and 1 for bits.

const (
	end  = 1 << 18
	far  = 1 << 19
	many = 1 << 16
)

// layout is one of runs, told by Offset, Length, Offset, Length.
func layout(first int, runs ...int) Layout {
	l := Layout{First: first}
	for i := 0; i < len(runs); i += 2 {
		l.Spans = append(l.Spans, api.Span{Offset: runs[i], Length: runs[i+1]})
	}
	return l
}

// buckets are some of those indices, each with another count.
func buckets(indices ...int) []api.Bucket {
	var l []api.Bucket
	for i, index := range indices {
		l = append(l, api.Bucket{Index: index, Count: uint64(7*i + 1)})
	}
	return l
}

// picture is the layout and the indices of a text whose first letter is the index at.
func picture(at int, s string) (Layout, []int) {
	var indices []int
	for i, c := range s {
		if c == '#' {
			indices = append(indices, at+i)
		}
	}
	if len(indices) == 0 {
		return Layout{}, nil
	}
	body := strings.Trim(s, ".")
	l := Layout{First: at + strings.IndexByte(s, '#')}
	gaps := strings.FieldsFunc(body, func(c rune) bool { return c == '#' })
	for i, run := range strings.FieldsFunc(body, func(c rune) bool { return c == '.' }) {
		one := api.Span{Length: len(run)}
		if i > 0 {
			one.Offset = len(gaps[i-1])
		}
		l.Spans = append(l.Spans, one)
	}
	return l, indices
}

// pictures are all texts of so many letters.
func pictures(long int) []string {
	l := []string{""}
	for range long {
		var next []string
		for _, s := range l {
			next = append(next, s+".", s+"#")
		}
		l = next
	}
	return l
}

// each is the text of which a letter is #, where it is # in one of both.
func each(a, b string) string {
	s := ""
	for i := range a {
		if a[i] == '#' || b[i] == '#' {
			s += "#"
		} else {
			s += "."
		}
	}
	return s
}

// alike says whether all is the same, field by field; lists that are empty are one.
func alike(a, b Layout) bool {
	if a.First != b.First || len(a.Spans) != len(b.Spans) {
		return false
	}
	for i := range a.Spans {
		if a.Spans[i].Offset != b.Spans[i].Offset || a.Spans[i].Length != b.Spans[i].Length {
			return false
		}
	}
	return true
}

// comb is a layout of so many runs of one bucket.
func comb(first, offset, long int) Layout {
	l := layout(first, 0, 1)
	for range long - 1 {
		l.Spans = append(l.Spans, api.Span{Offset: offset, Length: 1})
	}
	return l
}

// told are layouts that are right, with their indices.
var told = []struct {
	what    string
	l       Layout
	indices []int
}{
	{"none", Layout{}, nil},
	{"none, as an empty list", Layout{Spans: []api.Span{}}, nil},
	{"the document's", layout(1, 0, 2, 2, 1), []int{1, 2, 5}},
	{"one", layout(7, 0, 1), []int{7}},
	{"one run", layout(-2, 0, 5), []int{-2, -1, 0, 1, 2}},
	{"at 0", layout(0, 0, 1), []int{0}},
	{"one index apart", layout(0, 0, 1, 1, 1, 1, 2), []int{0, 2, 4, 5}},
	{"the first First", layout(-end, 0, 2), []int{-end, -end + 1}},
	{"the last First", layout(end, 0, 1), []int{end}},
	{"from the first index to the last", layout(-end, 0, 1, far-1, 1), []int{-end, end}},
	{"an Offset as great as may be", layout(-end, 0, 1, far, 1), []int{-end, end + 1}},
	{"several of them", layout(end, 0, 2, far, 1, far, 1), []int{end, end + 1, end + far + 2, end + 2*far + 3}},
}

// P6.1

func TestOf(t *testing.T) {
	for _, c := range told {
		// Buckets have no index beyond 2^18.
		if len(c.indices) > 0 && slices.Max(c.indices) > end {
			continue
		}
		if got := Of(buckets(c.indices...)); !alike(got, c.l) {
			t.Errorf("%s: Of(%v) = %v; want %v", c.what, c.indices, got, c.l)
		}
	}
	if got := Of([]api.Bucket{}); !alike(got, Layout{}) {
		t.Errorf("of an empty list: %v", got)
	}
	// Which buckets there are doesn't hang on how many each has.
	if got := Of([]api.Bucket{{Index: 3}, {Index: 4, Count: math.MaxUint64}}); !alike(got, layout(3, 0, 2)) {
		t.Errorf("of an empty bucket and a full one: %v", got)
	}
}

func TestIndices(t *testing.T) {
	for _, c := range told {
		if got := Indices(c.l); !slices.Equal(got, c.indices) {
			t.Errorf("%s: Indices(%v) = %v; want %v", c.what, c.l, got, c.indices)
		}
	}
}

func TestPictures(t *testing.T) {
	for _, at := range []int{0, -5, 1000, -end, end - 8} {
		for _, s := range pictures(9) {
			want, indices := picture(at, s)
			got := Of(buckets(indices...))
			if !alike(got, want) {
				t.Errorf("of %s at %d: %v; want %v", s, at, got, want)
			}
			if back := Indices(want); !slices.Equal(back, indices) {
				t.Errorf("the indices of %s at %d: %v; want %v", s, at, back, indices)
			}
			n := strings.Count(s, "#")
			if !Right(want, n) || n > 0 && Right(want, n-1) {
				t.Errorf("%s is right of %d buckets: %t, of one fewer: %t", s, n, Right(want, n), Right(want, n-1))
			}
		}
	}
}

func TestManyBuckets(t *testing.T) {
	one := layout(-many/2, 0, many)
	apart := comb(-many, 1, many)
	for _, l := range []Layout{one, apart, comb(end, far, many)} {
		indices := Indices(l)
		if len(indices) != many || indices[0] != l.First {
			t.Fatalf("%d indices of 2^16", len(indices))
		}
		if !Right(l, many) || Right(l, many-1) {
			t.Error("2^16 buckets are right of 2^16")
		}
		counts := make([]uint64, many)
		for i := range counts {
			counts[i] = uint64(i)
		}
		b := Buckets(l, counts)
		if len(b) != many-1 || b[0].Index != indices[1] || !slices.Equal(Counts(l, b), counts) {
			t.Errorf("%d buckets of 2^16 - 1", len(b))
		}
		if !Same(Of(buckets(indices...)), l) || !Has(l, l) || !alike(Join(l, l), l) {
			t.Error("2^16 buckets aren't what they are")
		}
	}
	if Same(one, apart) || Has(one, apart) || Has(apart, one) {
		t.Error("two of 2^16 are one")
	}
	// Those on even places, and those between.
	if got := Join(apart, comb(-many+1, 1, many)); !alike(got, layout(-many, 0, 2*many)) {
		t.Errorf("two of 2^16 make %d runs", len(got.Spans))
	}
}

func TestRight(t *testing.T) {
	for _, c := range told {
		n := len(c.indices)
		if !Right(c.l, n) || !Right(c.l, n+1) || !Right(c.l, math.MaxInt) {
			t.Errorf("%s isn't right: %v", c.what, c.l)
		}
		if n > 0 && (Right(c.l, n-1) || Right(c.l, 0) || Right(c.l, -1) || Right(c.l, math.MinInt)) {
			t.Errorf("%s is right of fewer than it has", c.what)
		}
		// How many may be plays no part where there are none.
		if n == 0 && (!Right(c.l, 0) || !Right(c.l, -1) || !Right(c.l, math.MinInt)) {
			t.Errorf("%s isn't right", c.what)
		}
	}
}

func TestNotRight(t *testing.T) {
	for _, c := range []struct {
		what string
		l    Layout
	}{
		{"none, with a First", Layout{First: 1}},
		{"none, with a First below", Layout{First: -1, Spans: []api.Span{}}},
		{"First below", layout(-end-1, 0, 1)},
		{"First above", layout(end+1, 0, 1)},
		{"the least First", layout(math.MinInt, 0, 1)},
		{"the greatest First", layout(math.MaxInt, 0, 1)},
		{"the first one has an Offset", layout(0, 1, 1)},
		{"the first one has one below", layout(0, -1, 1)},
		{"the first one has a great one", layout(0, far, 1, 1, 1)},
		{"no Offset", layout(0, 0, 1, 0, 1)},
		{"an Offset below", layout(0, 0, 1, -1, 1)},
		{"no Offset, of the last", layout(0, 0, 1, 1, 1, 0, 1)},
		{"the Offset is too great", layout(0, 0, 1, far+1, 1)},
		{"the last one's Offset is too great", layout(0, 0, 1, 1, 1, far+1, 1)},
		{"the greatest Offset", layout(0, 0, 1, math.MaxInt, 1)},
		{"the least Offset", layout(0, 0, 1, math.MinInt, 1)},
		{"no Length", layout(0, 0, 0)},
		{"a Length below", layout(0, 0, -1)},
		{"no Length, of the last", layout(0, 0, 1, 1, 0)},
		{"a Length below, of the first", layout(0, 0, -1, 1, 2)},
		{"the least Length", layout(0, 0, math.MinInt)},
		{"Lengths together are more", layout(0, 0, 40, 1, 61)},
		{"Lengths together are more, of many", comb(0, 1, 101)},
		{"a Length is more", layout(0, 0, 101)},
		{"the last Length is more", layout(0, 0, 1, 1, 101)},
		{"Lengths that go round", layout(0, 0, math.MaxInt, 1, math.MaxInt, 1, 3)},
	} {
		if Right(c.l, 100) {
			t.Errorf("%s is right: %v", c.what, c.l)
		}
	}
	// So many as there can be are no fewer than two of them.
	for _, l := range []Layout{
		layout(0, 0, math.MaxInt, 1, 1),
		layout(0, 0, 1, 1, math.MaxInt),
		layout(0, 0, math.MaxInt, 1, math.MaxInt),
		layout(0, 0, math.MaxInt, 1, math.MaxInt, 1, math.MaxInt),
	} {
		if Right(l, math.MaxInt) {
			t.Errorf("right: %v", l)
		}
	}
	if !Right(layout(0, 0, math.MaxInt), math.MaxInt) || !Right(layout(0, 0, 60, 1, 40), 100) || !Right(comb(0, 1, 100), 100) {
		t.Error("as many as may be aren't right")
	}
}

func TestSame(t *testing.T) {
	for i, a := range told {
		for k, b := range told {
			want := i == k || len(a.indices) == 0 && len(b.indices) == 0
			if Same(a.l, b.l) != want {
				t.Errorf("%s and %s are one: %t", a.what, b.what, !want)
			}
		}
	}
	l := layout(1, 0, 2, 2, 1)
	for _, other := range []Layout{
		layout(2, 0, 2, 2, 1), layout(1, 0, 3, 2, 1), layout(1, 0, 2, 3, 1), layout(1, 0, 2, 2, 2),
		layout(1, 0, 2), layout(1, 0, 2, 2, 1, 1, 1), layout(1, 0, 2, 1, 1),
	} {
		if Same(l, other) || Same(other, l) {
			t.Errorf("%v and %v are one", l, other)
		}
	}
}

func TestTwoPictures(t *testing.T) {
	texts := pictures(7)
	for _, a := range texts {
		x, _ := picture(-3, a)
		for _, b := range texts {
			y, _ := picture(-3, b)
			both, _ := picture(-3, each(a, b))
			if got := Join(x, y); !alike(got, both) {
				t.Errorf("Join of %s and %s is %v; want %v", a, b, got, both)
			}
			if Same(x, y) != (a == b) {
				t.Errorf("Same of %s and %s is %t", a, b, a != b)
			}
			if want := each(a, b) == a; Has(x, y) != want {
				t.Errorf("%s has %s: %t", a, b, !want)
			}
		}
	}
}

func TestJoinAtTheEnds(t *testing.T) {
	for _, c := range []struct{ a, b, want Layout }{
		{layout(-end, 0, 1), layout(end, 0, 1), layout(-end, 0, 1, far-1, 1)},
		{layout(-end, 0, 1), layout(end, 0, 1, far, 1), layout(-end, 0, 1, far-1, 1, far, 1)},
		{layout(-end, 0, 1, far, 1), layout(-end+1, 0, 1), layout(-end, 0, 2, far-1, 1)},
		{layout(-end, 0, 1, far, 1), layout(end, 0, 1), layout(-end, 0, 1, far-1, 2)},
		{layout(-end, 0, 1, far, 1), Layout{}, layout(-end, 0, 1, far, 1)},
		{layout(end, 0, 3), layout(end+0, 0, 1, 2, 1), layout(end, 0, 4)},
		{Layout{}, Layout{Spans: []api.Span{}}, Layout{}},
	} {
		if got := Join(c.a, c.b); !alike(got, c.want) || !Right(got, 9) {
			t.Errorf("Join(%v, %v) = %v; want %v", c.a, c.b, got, c.want)
		}
		if got := Join(c.b, c.a); !alike(got, c.want) {
			t.Errorf("Join(%v, %v) = %v; want %v", c.b, c.a, got, c.want)
		}
		if !Has(c.want, c.a) || !Has(c.want, c.b) || Has(c.a, c.want) != alike(c.a, c.want) {
			t.Errorf("what %v has of %v and %v", c.want, c.a, c.b)
		}
	}
}

func TestCounts(t *testing.T) {
	l := layout(1, 0, 2, 2, 1)
	for _, c := range []struct {
		what string
		l    Layout
		b    []api.Bucket
		want []uint64
	}{
		{"all", l, []api.Bucket{{Index: 1, Count: 4}, {Index: 2, Count: 5}, {Index: 5, Count: 6}}, []uint64{4, 5, 6}},
		{"none", l, nil, []uint64{0, 0, 0}},
		{"the first one", l, []api.Bucket{{Index: 1, Count: 4}}, []uint64{4, 0, 0}},
		{"the last one", l, []api.Bucket{{Index: 5, Count: math.MaxUint64}}, []uint64{0, 0, math.MaxUint64}},
		{"an empty one", l, []api.Bucket{{Index: 1}, {Index: 2, Count: 3}}, []uint64{0, 3, 0}},
		{"those that it hasn't", l, []api.Bucket{{Index: -9, Count: 1}, {Index: 0, Count: 1}, {Index: 3, Count: 1}, {Index: 4, Count: 1}, {Index: 6, Count: 1}}, []uint64{0, 0, 0}},
		{"others among them", l, []api.Bucket{{Index: 0, Count: 1}, {Index: 2, Count: 2}, {Index: 3, Count: 3}, {Index: 4, Count: 4}, {Index: 5, Count: 5}, {Index: 9, Count: 6}}, []uint64{0, 2, 5}},
		{"the ends", layout(-end, 0, 1, far-1, 1), []api.Bucket{{Index: -end, Count: 8}, {Index: end, Count: 9}}, []uint64{8, 9}},
		{"of none", Layout{}, buckets(0, 1, 2), nil},
		{"of none, none", Layout{}, nil, nil},
	} {
		if got := Counts(c.l, c.b); !slices.Equal(got, c.want) {
			t.Errorf("%s: Counts(%v, %v) = %v; want %v", c.what, c.l, c.b, got, c.want)
		}
	}
}

func TestBuckets(t *testing.T) {
	l := layout(1, 0, 2, 2, 1)
	for _, c := range []struct {
		what   string
		l      Layout
		counts []uint64
		want   []api.Bucket
	}{
		{"all", l, []uint64{4, 5, 6}, []api.Bucket{{Index: 1, Count: 4}, {Index: 2, Count: 5}, {Index: 5, Count: 6}}},
		{"empty ones", l, []uint64{0, math.MaxUint64, 0}, []api.Bucket{{Index: 2, Count: math.MaxUint64}}},
		{"the last one", l, []uint64{0, 0, 1}, []api.Bucket{{Index: 5, Count: 1}}},
		{"only empty ones", l, []uint64{0, 0, 0}, nil},
		{"fewer", l, []uint64{4, 5}, []api.Bucket{{Index: 1, Count: 4}, {Index: 2, Count: 5}}},
		{"one", l, []uint64{4}, []api.Bucket{{Index: 1, Count: 4}}},
		{"none", l, nil, nil},
		{"more", l, []uint64{0, 0, 3, 4, 5}, []api.Bucket{{Index: 5, Count: 3}}},
		{"the ends", layout(-end, 0, 1, far-1, 1), []uint64{8, 9}, []api.Bucket{{Index: -end, Count: 8}, {Index: end, Count: 9}}},
		{"of none", Layout{}, []uint64{1, 2}, nil},
	} {
		if got := Buckets(c.l, c.counts); !slices.Equal(got, c.want) {
			t.Errorf("%s: Buckets(%v, %v) = %v; want %v", c.what, c.l, c.counts, got, c.want)
		}
	}
}

// Of all pictures: the buckets of one by the layout of another one.
func TestCountsOfPictures(t *testing.T) {
	texts := pictures(6)
	for _, a := range texts {
		l, indices := picture(10, a)
		for _, s := range texts {
			_, others := picture(10, s)
			b := buckets(others...)
			has := map[int]uint64{}
			for _, one := range b {
				has[one.Index] = one.Count
			}
			var want []uint64
			var back []api.Bucket
			for _, i := range indices {
				want = append(want, has[i])
				if has[i] > 0 {
					back = append(back, api.Bucket{Index: i, Count: has[i]})
				}
			}
			counts := Counts(l, b)
			if !slices.Equal(counts, want) {
				t.Errorf("the counts of %s by %s: %v; want %v", s, a, counts, want)
			}
			if got := Buckets(l, counts); !slices.Equal(got, back) {
				t.Errorf("the buckets of %s by %s: %v; want %v", s, a, got, back)
			}
		}
	}
}

// R3: what is handed in stays as it was, also behind its end, and what is handed out is new.
func TestNothingIsShared(t *testing.T) {
	room := []api.Span{{Offset: 0, Length: 2}, {Offset: 2, Length: 1}, {Offset: 77, Length: 78}}
	a := Layout{First: 1, Spans: room[:2]}
	b := Layout{First: -4, Spans: []api.Span{{Offset: 0, Length: 3}}}
	more := buckets(1, 2, 5, 99)
	counts := []uint64{1, 2, 3, 4}
	Indices(a)
	Same(a, b)
	Has(a, b)
	Join(a, b)
	Join(b, a)
	Counts(a, more[:3])
	Buckets(a, counts[:3])
	Of(more[:3])
	var w bits.Writer
	Lay(&w, a)
	if !slices.Equal(room, []api.Span{{Offset: 0, Length: 2}, {Offset: 2, Length: 1}, {Offset: 77, Length: 78}}) ||
		!slices.Equal(more, buckets(1, 2, 5, 99)) || !slices.Equal(counts, []uint64{1, 2, 3, 4}) {
		t.Errorf("changed: %v, %v, %v", room, more, counts)
	}
	for _, got := range []Layout{Join(a, Layout{}), Join(Layout{}, a), Join(a, a)} {
		got.Spans[0].Length = 1000
		if !alike(a, layout(1, 0, 2, 2, 1)) {
			t.Fatal("what was joined is shared")
		}
	}
	first := Indices(a)
	first[0] = 1000
	if !slices.Equal(Indices(a), []int{1, 2, 5}) {
		t.Error("indices are shared")
	}
}

// P6.2

// count is a count's bits.
func count(n uint64) string {
	long := len(strconv.FormatUint(n, 2))
	if n == 0 {
		return "0"
	}
	for class, room := range []int{0, 3, 7, 12, 20, 32, 64} {
		if long <= room {
			s := strings.Repeat("1", class)
			if class < 6 {
				s += "0"
			}
			return s + strings.Repeat("0", room-long) + strconv.FormatUint(n, 2)
		}
	}
	return ""
}

// whole is a whole number's bits.
func whole(n int) string {
	if n < 0 {
		return count(uint64(-n-1)*2 + 1)
	}
	return count(uint64(n) * 2)
}

// letters are a layout's bits, told by its numbers.
func letters(l Layout) string {
	s := []string{count(uint64(len(l.Spans)))}
	for i, one := range l.Spans {
		if i == 0 {
			s = append(s, whole(l.First))
		} else {
			s = append(s, count(uint64(one.Offset-1)))
		}
		s = append(s, count(uint64(one.Length-1)))
	}
	return strings.Join(s, "")
}

// pack are letters as bytes, with noughts at the end.
func pack(s string) []byte {
	var w bits.Writer
	for _, c := range s {
		w.Bit(c == '1')
	}
	return w.Bytes()
}

func TestLay(t *testing.T) {
	for _, c := range []struct {
		l    Layout
		want string
	}{
		{Layout{}, "0"},
		{layout(1, 0, 2, 2, 1), "10" + "010" + "10" + "010" + "10" + "001" + "10" + "001" + "0"},
		{layout(0, 0, 1), "10" + "001" + "0" + "0"},
		{layout(-1, 0, 1, 1, 9), "10" + "010" + "10" + "001" + "0" + "0" + "110" + "0001000"},
	} {
		var w bits.Writer
		Lay(&w, c.l)
		if !slices.Equal(w.Bytes(), pack(c.want)) || w.Len() != len(c.want) {
			t.Errorf("Lay(%v): %d bits, %b; want %s", c.l, w.Len(), w.Bytes(), c.want)
		}
	}
	for _, c := range told {
		for _, ahead := range []string{"", "1", "0110110"} {
			var w bits.Writer
			for _, b := range ahead {
				w.Bit(b == '1')
			}
			Lay(&w, c.l)
			if want := ahead + letters(c.l); !slices.Equal(w.Bytes(), pack(want)) || w.Len() != len(want) {
				t.Errorf("%s behind %s: %b; want %s", c.what, ahead, w.Bytes(), want)
			}
		}
	}
	Lay(nil, layout(1, 0, 2, 2, 1))
}

// checkTake takes a layout of letters, with some behind, and says what is left.
func checkTake(t *testing.T, what, s string, most int, want Layout, wrong api.Errno) *bits.Reader {
	t.Helper()
	r := bits.Read(pack(s))
	if got := Take(r, most); !alike(got, want) || r.Err() != wrong {
		t.Errorf("%s: Take of %s, %d: %v, %d; want %v, %d", what, s, most, got, r.Err(), want, wrong)
	}
	return r
}

func TestTake(t *testing.T) {
	for _, c := range told {
		n := max(1, len(c.indices))
		for _, most := range []int{n, n + 1, 100, math.MaxInt} {
			s := letters(c.l)
			r := checkTake(t, c.what, s+"1", most, c.l, api.OK)
			// The bit behind the layout is the next one.
			if !r.Bit() || r.End() != api.OK {
				t.Errorf("%s: the bit behind isn't taken next", c.what)
			}
		}
	}
	for _, l := range []Layout{layout(-many/2, 0, many), comb(-many, 1, many), comb(end, far, many)} {
		checkTake(t, "many", letters(l), many, l, api.OK)
		r := bits.Read(pack(letters(l)))
		if got := Take(r, many-1); !alike(got, Layout{}) || r.Err() != api.ErrLimit {
			t.Errorf("2^16 of one fewer: %d runs, %d", len(got.Spans), r.Err())
		}
	}
}

func TestTakeLimits(t *testing.T) {
	none := Layout{}
	for _, c := range []struct {
		what string
		s    string
		most int
		e    api.Errno
	}{
		{"runs above most", count(4) + whole(0) + "0" + "00" + "00" + "00", 3, api.ErrLimit},
		{"as many runs as there are numbers", count(math.MaxUint64), 3, api.ErrLimit},
		{"runs above the greatest most", count(1 << 63), math.MaxInt, api.ErrLimit},
		{"an Offset above", count(2) + whole(0) + "0" + count(far) + "0", 9, api.ErrLimit},
		{"the greatest Offset", count(2) + whole(0) + "0" + count(math.MaxUint64) + "0", 9, api.ErrLimit},
		{"a Length above", count(1) + whole(0) + count(9), 9, api.ErrLimit},
		{"the greatest Length", count(1) + whole(0) + count(math.MaxUint64), 9, api.ErrLimit},
		{"the greatest Length, of the greatest most", count(1) + whole(0) + count(math.MaxInt), math.MaxInt, api.ErrLimit},
		{"the last Length above", count(2) + whole(0) + "0" + "0" + count(9), 9, api.ErrLimit},
		{"a Length above one", count(1) + whole(0) + count(1), 1, api.ErrLimit},
		{"First below, and a Length above", count(1) + whole(-end-1) + count(9), 9, api.ErrLimit},
		{"together above, and an Offset above behind it", count(3) + whole(0) + count(8) + "0" + count(8) + count(far) + "0", 9, api.ErrLimit},
		{"together above", count(2) + whole(0) + count(4) + "0" + count(4), 9, api.OK},
		{"together far above", count(2) + whole(0) + count(math.MaxInt-1) + "0" + count(math.MaxInt-1), math.MaxInt, api.OK},
		{"together above, of one", count(2) + whole(0) + "0" + "0" + "0", 1, api.ErrLimit},
		{"First below", count(1) + whole(-end-1) + "0", 9, api.OK},
		{"First above", count(1) + whole(end+1) + "0", 9, api.OK},
		{"the least First", count(1) + whole(math.MinInt) + "0", 9, api.OK},
		{"the greatest First", count(1) + whole(math.MaxInt) + "0", 9, api.OK},
		{"First above, of more runs", count(2) + whole(end+1) + count(3) + count(5) + "0", 9, api.OK},
	} {
		r := checkTake(t, c.what, c.s+"1", c.most, none, c.e)
		// What is none, without an error, is taken all the same.
		if c.e == api.OK && (!r.Bit() || r.End() != api.OK) {
			t.Errorf("%s: the bit behind isn't taken next", c.what)
		}
	}
	checkTake(t, "the greatest Offset that may be", count(2)+whole(0)+"0"+count(far-1)+"0", 2, layout(0, 0, 1, far, 1), api.OK)
	checkTake(t, "the greatest Length that may be", count(1)+whole(0)+count(8), 9, layout(0, 0, 9), api.OK)
	checkTake(t, "the greatest Length of the greatest most", count(1)+whole(0)+count(math.MaxInt-1), math.MaxInt, layout(0, 0, math.MaxInt), api.OK)
	checkTake(t, "together as many as may be", count(2)+whole(0)+count(3)+"0"+count(4), 9, layout(0, 0, 4, 1, 5), api.OK)
}

// One bucket at least may be, whatever is asked for.
func TestTakeOfFewerThanOne(t *testing.T) {
	for _, most := range []int{0, -1, math.MinInt} {
		checkTake(t, "none", "0", most, Layout{}, api.OK)
		checkTake(t, "two runs", count(2)+whole(0)+"0000", most, Layout{}, api.ErrLimit)
		checkTake(t, "two", count(1)+whole(0)+count(1), most, Layout{}, api.ErrLimit)
	}
}

func TestTakeTooShort(t *testing.T) {
	for _, c := range told {
		// Of whole bytes: those that end ahead of the layout's last bit.
		b := pack(letters(c.l))
		for long := range b {
			r := bits.Read(b[:long])
			if got := Take(r, 100); !alike(got, Layout{}) || r.Err() != api.ErrShort {
				t.Errorf("%s: of %d bytes of %d: %v, %d", c.what, long, len(b), got, r.Err())
			}
		}
	}
	// Ahead of each bit: fill what is ahead of it, so that the bytes end there.
	s := letters(layout(-77, 0, 20, 300, 1, 1, 8))
	for long := range len(s) {
		pad := (8 - long%8) % 8
		r := bits.Read(pack(strings.Repeat("1", pad) + s[:long]))
		r.Get(pad)
		if got := Take(r, 100); !alike(got, Layout{}) || r.Err() != api.ErrShort {
			t.Errorf("of %d bits of %d: %v, %d", long, len(s), got, r.Err())
		}
	}
	// More runs are told than there are bits.
	for _, n := range []uint64{2, 1 << 30, math.MaxInt} {
		checkTake(t, "more runs", count(n)+whole(0), math.MaxInt, Layout{}, api.ErrShort)
	}
}

func TestTakeWrongForm(t *testing.T) {
	for _, s := range []string{
		"10000",                         // no runs, laid too long
		"110" + "0000001",               // one run
		"10001" + "10000" + "0",         // First
		"10001" + "0" + "110" + "0000",  // a Length
		"10010" + "0" + "0" + "1100000", // an Offset
	} {
		checkTake(t, "too long", s+"000000000", 9, Layout{}, api.ErrForm)
	}
}

func TestTakeBehindAnError(t *testing.T) {
	r := bits.Read(pack(letters(layout(1, 0, 2, 2, 1))))
	r.Get(64)
	left := r.Left()
	if got := Take(r, 9); !alike(got, Layout{}) || r.Err() != api.ErrShort || r.Left() != left {
		t.Errorf("behind an error: %v, %d", got, r.Err())
	}
	r = bits.Read(pack(count(9) + letters(layout(1, 0, 2, 2, 1))))
	r.Small(3)
	if got := Take(r, 9); !alike(got, Layout{}) || r.Err() != api.ErrLimit {
		t.Errorf("behind a limit: %v, %d", got, r.Err())
	}
	if got := Take(nil, 9); !alike(got, Layout{}) {
		t.Errorf("of no reader: %v", got)
	}
}

// P6.3

// drawn is a layout that is right, of at most so many buckets.
func drawn(r *rand.Rand, most int) Layout {
	var l Layout
	left := r.IntN(most + 1)
	for left > 0 {
		s := api.Span{Length: 1 + r.IntN(min(left, 1+r.IntN(40)))}
		if len(l.Spans) == 0 {
			l.First = r.IntN(2*end+1) - end
		} else {
			s.Offset = 1 + r.IntN(1<<r.IntN(20))
		}
		left -= s.Length
		l.Spans = append(l.Spans, s)
	}
	return l
}

func TestLaidAndTaken(t *testing.T) {
	r := rand.New(rand.NewPCG(6, 1))
	for range 3000 {
		most := 1 + r.IntN(300)
		var l []Layout
		var w bits.Writer
		want := ""
		for range 1 + r.IntN(4) {
			one := drawn(r, most)
			if !Right(one, most) {
				t.Fatalf("drawn, but not right: %v", one)
			}
			l = append(l, one)
			Lay(&w, one)
			want += letters(one)
		}
		if !slices.Equal(w.Bytes(), pack(want)) {
			t.Errorf("%v: laid as %b; want %s", l, w.Bytes(), want)
		}
		from := bits.Read(w.Bytes())
		for _, one := range l {
			if got := Take(from, most); !Same(got, one) || from.Err() != api.OK {
				t.Errorf("laid %v, taken %v, %d", one, got, from.Err())
			}
		}
		if from.End() != api.OK {
			t.Errorf("%v: something is left", l)
		}
	}
}

func TestDrawn(t *testing.T) {
	r := rand.New(rand.NewPCG(6, 2))
	for range 2000 {
		a, b := drawn(r, 60), drawn(r, 60)
		if r.IntN(2) == 0 && len(b.Spans) > 0 {
			b.First = min(max(a.First+r.IntN(40)-20, -end), end)
		}
		x, y := Indices(a), Indices(b)
		all := append(append([]int{}, x...), y...)
		slices.Sort(all)
		all = slices.Compact(all)
		both := Join(a, b)
		if !slices.Equal(Indices(both), all) || !Right(both, len(all)) || !Has(both, a) || !Has(both, b) {
			t.Errorf("Join(%v, %v) = %v", a, b, both)
		}
		if Has(a, b) != (len(all) == len(x)) || Has(b, a) != (len(all) == len(y)) {
			t.Errorf("Has(%v, %v)", a, b)
		}
	}
}

// What is taken of any bytes is right, or none.
func TestTakenIsRight(t *testing.T) {
	r := rand.New(rand.NewPCG(6, 3))
	full := 0
	for range 60000 {
		b := make([]byte, r.IntN(12))
		for i := range b {
			b[i] = byte(r.Uint32())
		}
		if len(b) > 0 {
			b[0] &= byte(0x1f | r.Uint32())
		}
		most := 1 + r.IntN(50)
		from := bits.Read(b)
		l := Take(from, most)
		if !Right(l, most) || from.Err() != api.OK && !alike(l, Layout{}) {
			t.Errorf("of %b: %v, %d", b, l, from.Err())
		}
		if len(l.Spans) > 0 {
			full++
		}
	}
	if full < 1000 {
		t.Errorf("only %d had runs", full)
	}
}

// R1: whatever is handed in, each call ends, and none panics.
func TestWhatever(t *testing.T) {
	r := rand.New(rand.NewPCG(6, 4))
	ends := []int{math.MinInt, math.MinInt + 1, -far, -end, -1, 0, 1, 2, end, far, far + 1, 1 << 40, math.MaxInt - 1, math.MaxInt}
	number := func() int { return ends[r.IntN(len(ends))] }
	whatever := func() Layout {
		l := Layout{First: number()}
		for range r.IntN(4) {
			l.Spans = append(l.Spans, api.Span{Offset: number(), Length: number()})
		}
		return l
	}
	for range 20000 {
		a, b := whatever(), whatever()
		l := []api.Bucket{{Index: number(), Count: r.Uint64()}, {Index: number()}, {Index: number(), Count: 1}}
		counts := []uint64{1, 0, 3, 4}
		Indices(a)
		Right(a, number())
		Same(a, b)
		Has(a, b)
		Join(a, b)
		Counts(a, l)
		Buckets(a, counts)
		Indices(Of(l))
		var w bits.Writer
		Lay(&w, a)
		Lay(nil, a)
		Take(bits.Read(w.Bytes()), number())
		Take(nil, number())
	}
}
