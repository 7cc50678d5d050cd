package tomb

import (
	"math"
	"math/rand/v2"
	"pluvial/api"
	"pluvial/bits"
	"slices"
	"strconv"
	"strings"
	"testing"
)

// The tests hold the package against texts: of the letters # and . for times that a set has and hasn't, and of 0 and 1 for bits.

const end = 1 << 40

// list are ranges, told by From, To, From, To.
func list(ends ...int64) []Range {
	var l []Range
	for i := 0; i < len(ends); i += 2 {
		l = append(l, Range{From: ends[i], To: ends[i+1]})
	}
	return l
}

// set is the set of ranges, told so.
func set(ends ...int64) Set { return Of(list(ends...)...) }

// has asserts a set's ranges, and whether it is empty.
func has(t *testing.T, what string, s Set, want []Range) {
	t.Helper()
	if got := s.Ranges(); !slices.Equal(got, want) {
		t.Errorf("%s: %v; want %v", what, got, want)
	}
	if s.Empty() != (len(want) == 0) {
		t.Errorf("%s: %v is empty: %t", what, want, s.Empty())
	}
}

// runs are the ranges of a text whose first letter is the time at.
func runs(at int64, s string) []Range {
	var l []Range
	for i := range s {
		if s[i] != '#' {
			continue
		}
		if i > 0 && s[i-1] == '#' {
			l[len(l)-1].To++
		} else {
			l = append(l, Range{From: at + int64(i), To: at + int64(i)})
		}
	}
	return l
}

// pictures are all texts of so many letters.
func pictures(long int) []string {
	l := []string{""}
	for range long {
		var next []string
		for _, s := range l {
			next = append(next, s+".", s+"#")
		}
		l = next
	}
	return l
}

// picture is a text of so many letters, made letter by letter.
func picture(long int, has func(i int64) bool) string {
	var b strings.Builder
	for i := range long {
		if has(int64(i)) {
			b.WriteByte('#')
		} else {
			b.WriteByte('.')
		}
	}
	return b.String()
}

// P14.1

func TestRight(t *testing.T) {
	for _, r := range list(0, 0, 0, 1, 5, 5, 5, 6, 0, end, end, end, end-1, end, 7, end) {
		if !Right(r) {
			t.Errorf("%v may not be", r)
		}
		has(t, "one", Of(r), []Range{r})
	}
	for _, r := range list(-1, -1, -1, 0, -1, end, 1, 0, 6, 5, end, end-1, end, 0, 0, end+1, end, end+1, end+1, end+1, end+1, end, end+1, 0,
		math.MinInt64, 0, math.MinInt64, math.MaxInt64, 0, math.MaxInt64, math.MaxInt64, math.MaxInt64, math.MaxInt64, math.MinInt64, 0, math.MinInt64, 0, -1) {
		if Right(r) {
			t.Errorf("%v may be", r)
		}
		has(t, "one that may not be", Of(r), nil)
		has(t, "one that may not be among others", Of(Range{From: 3, To: 4}, r, Range{From: 6, To: 6}), list(3, 4, 6, 6))
	}
}

func TestOf(t *testing.T) {
	for _, c := range []struct {
		what string
		in   []Range
		want []Range
	}{
		{"none", nil, nil},
		{"an empty list", []Range{}, nil},
		{"only such as may not be", list(1, 0, -1, 5, 0, end+1), nil},
		{"the document's", list(1, 3, 4, 5, 9, 9), list(1, 5, 9, 9)},
		{"one time", list(7, 7), list(7, 7)},
		{"all times", list(0, end), list(0, end)},
		{"they touch", list(0, 0, 1, 1), list(0, 1)},
		{"just one time between", list(0, 0, 2, 2), list(0, 0, 2, 2)},
		{"one in another one", list(1, 9, 3, 4), list(1, 9)},
		{"one in another one, to its end", list(1, 9, 3, 9), list(1, 9)},
		{"one in another one, from its beginning", list(1, 9, 1, 4), list(1, 9)},
		{"one in another one, and a third that touches that", list(1, 9, 3, 4, 10, 12), list(1, 12)},
		{"one in another one, and a third behind", list(1, 9, 3, 4, 6, 6, 11, 12), list(1, 9, 11, 12)},
		{"alike", list(1, 9, 1, 9, 1, 9), list(1, 9)},
		{"they overlap", list(1, 5, 5, 8, 7, 9), list(1, 9)},
		{"the last one joins all", list(1, 2, 4, 5, 7, 8, 0, 9), list(0, 9)},
		{"between two", list(1, 2, 6, 7, 3, 5), list(1, 7)},
		{"the ends", list(end, end, 0, 0), list(0, 0, end, end)},
		{"just below the end", list(end-1, end-1, end, end, end-3, end-3), list(end-3, end-3, end-1, end)},
	} {
		for range 2 {
			for i := range c.in {
				// From each one on, and back: in any order they are the same.
				in := slices.Concat(c.in[i:], c.in[:i])
				has(t, c.what, Of(in...), c.want)
				slices.Reverse(in)
				has(t, c.what, Of(in...), c.want)
			}
			has(t, c.what, Of(c.in...), c.want)
		}
	}
	has(t, "a zero set", Set{}, nil)
}

// All lists of three ranges among few times, such as may not be too, at both ends of time.
func TestAllThree(t *testing.T) {
	const long = 5
	for _, at := range []int64{0, end - long + 1} {
		var all []Range
		for from := range int64(long + 2) {
			for to := range int64(long + 2) {
				all = append(all, Range{From: at + from - 1, To: at + to - 1})
			}
		}
		for _, a := range all {
			for _, b := range all {
				for _, c := range all {
					in := [3]Range{a, b, c}
					// One time more at either side: ranges may go there, if these times may be.
					s := picture(long+2, func(i int64) bool {
						return slices.ContainsFunc(in[:], func(r Range) bool {
							return r.From >= 0 && r.To <= end && r.From <= at-1+i && at-1+i <= r.To
						})
					})
					if got := Of(in[:]...); !slices.Equal(got.Ranges(), runs(at-1, s)) {
						t.Fatalf("Of(%v) is %v; want %v", in, got.Ranges(), runs(at-1, s))
					}
				}
			}
		}
	}
}

// Of many ranges, drawn in any order, against a table of times.
func TestManyRanges(t *testing.T) {
	r := rand.New(rand.NewPCG(14, 1))
	for range 300 {
		const long = 400
		var times [long]bool
		var in []Range
		for range r.IntN(60) {
			from := r.Int64N(long)
			to := min(from+r.Int64N(12), long-1)
			in = append(in, Range{From: from, To: to})
			for i := from; i <= to; i++ {
				times[i] = true
			}
		}
		want := runs(0, picture(long, func(i int64) bool { return times[i] }))
		s := Of(in...)
		has(t, "drawn", s, want)
		for i := range int64(long) {
			if s.Has(i) != times[i] {
				t.Errorf("%v has %d: %t", want, i, !times[i])
			}
		}
	}
}

func TestHas(t *testing.T) {
	for _, at := range []int64{0, 1000, end - 7} {
		for _, text := range pictures(8) {
			s := Of(runs(at, text)...)
			has(t, text, s, runs(at, text))
			for i := int64(-2); i < 10; i++ {
				want := i >= 0 && i < 8 && text[i] == '#'
				if s.Has(at+i) != want {
					t.Errorf("%s at %d has %d: %t", text, at, i, !want)
				}
			}
		}
	}
	all := set(0, end)
	for _, c := range []struct {
		t    int64
		want bool
	}{{-1, false}, {0, true}, {1, true}, {end / 2, true}, {end - 1, true}, {end, true}, {end + 1, false}, {math.MinInt64, false}, {math.MaxInt64, false}} {
		if all.Has(c.t) != c.want {
			t.Errorf("all times have %d: %t", c.t, !c.want)
		}
		if (Set{}).Has(c.t) || set(5, 5, 7, 9).Has(c.t) {
			t.Errorf("a set has %d", c.t)
		}
	}
}

func TestTwoSets(t *testing.T) {
	const long = 7
	texts := pictures(long)
	for _, at := range []int64{0, end - long + 1} {
		for _, a := range texts {
			x := Of(runs(at, a)...)
			for _, b := range texts {
				y := Of(runs(at, b)...)
				both := picture(long, func(i int64) bool { return a[i] == '#' || b[i] == '#' })
				got := x.And(y)
				if !slices.Equal(got.Ranges(), runs(at, both)) {
					t.Errorf("%s and %s: %v", a, b, got.Ranges())
				}
				if Same(x, y) != (a == b) || !Same(got, Of(runs(at, both)...)) {
					t.Errorf("%s and %s are the same: %t", a, b, a != b)
				}
			}
			has(t, a, x, runs(at, a))
		}
	}
	has(t, "two empty ones", Set{}.And(Set{}), nil)
	has(t, "an empty one and another one", Set{}.And(set(1, 2)), list(1, 2))
	has(t, "one and an empty one", set(1, 2).And(Set{}), list(1, 2))
	if !Same(Set{}, Set{}) || !Same(Set{}, Of()) || !Same(Of(list(5, 4)...), Set{}) || Same(Set{}, set(0, 0)) || Same(set(0, 0), Set{}) {
		t.Error("empty sets aren't the same")
	}
	if !Same(set(1, 3, 4, 5), set(5, 5, 1, 2, 2, 4)) || Same(set(1, 3), set(1, 4)) || Same(set(1, 3), set(0, 3)) || Same(set(1, 3), set(1, 3, 5, 5)) || Same(set(0, 0), set(end, end)) {
		t.Error("the same times")
	}
}

func TestWithout(t *testing.T) {
	const long = 7
	for _, at := range []int64{0, 40, end - long + 1} {
		for _, a := range pictures(long) {
			s := Of(runs(at, a)...)
			for from := int64(-2); from < long+2; from++ {
				for to := int64(-2); to < long+2; to++ {
					r := Range{From: at + from, To: at + to}
					rest := a
					if r.From >= 0 && r.From <= r.To && r.To <= end {
						rest = picture(long, func(i int64) bool { return a[i] == '#' && (i < from || i > to) })
					}
					if got := s.Without(r); !slices.Equal(got.Ranges(), runs(at, rest)) {
						t.Errorf("%s at %d without %v: %v; want %s", a, at, r, got.Ranges(), rest)
					}
				}
			}
			has(t, a, s, runs(at, a))
		}
	}
	s := set(10, 20, 30, 40, 50, 60)
	for _, c := range []struct {
		what string
		r    Range
		want []Range
	}{
		{"all", Range{0, end}, nil},
		{"just all", Range{10, 60}, nil},
		{"nothing ahead", Range{0, 9}, list(10, 20, 30, 40, 50, 60)},
		{"nothing behind", Range{61, end}, list(10, 20, 30, 40, 50, 60)},
		{"nothing between", Range{21, 29}, list(10, 20, 30, 40, 50, 60)},
		{"the beginning of one", Range{10, 12}, list(13, 20, 30, 40, 50, 60)},
		{"the end of one", Range{18, 25}, list(10, 17, 30, 40, 50, 60)},
		{"the midst of one", Range{32, 37}, list(10, 20, 30, 31, 38, 40, 50, 60)},
		{"one time of one", Range{35, 35}, list(10, 20, 30, 34, 36, 40, 50, 60)},
		{"from one to another one", Range{20, 50}, list(10, 19, 51, 60)},
		{"the first one", Range{10, 20}, list(30, 40, 50, 60)},
		{"the last one", Range{50, 60}, list(10, 20, 30, 40)},
		{"one that may not be", Range{60, 10}, list(10, 20, 30, 40, 50, 60)},
		{"one from below 0", Range{-1, end}, list(10, 20, 30, 40, 50, 60)},
		{"one beyond the end", Range{0, end + 1}, list(10, 20, 30, 40, 50, 60)},
		{"the least one", Range{math.MinInt64, math.MinInt64}, list(10, 20, 30, 40, 50, 60)},
		{"the greatest one", Range{math.MaxInt64, math.MaxInt64}, list(10, 20, 30, 40, 50, 60)},
	} {
		has(t, c.what, s.Without(c.r), c.want)
		has(t, c.what+", of nothing", Set{}.Without(c.r), nil)
		has(t, c.what+", the set itself", s, list(10, 20, 30, 40, 50, 60))
	}
	has(t, "the midst of all times", set(0, end).Without(Range{1, end - 1}), list(0, 0, end, end))
	has(t, "all but the first", set(0, end).Without(Range{1, end}), list(0, 0))
	has(t, "all but the last", set(0, end).Without(Range{0, end - 1}), list(end, end))
	has(t, "all times", set(0, end).Without(Range{0, end}), nil)
}

// sample is a sample at a time, with a histogram of many fields.
func sample(at int64) api.Sample {
	return api.Sample{T: at, H: api.Hist{
		Kind: api.Gauge, Schema: 2, ZeroAt: -7, Zero: 3, Count: uint64(at) + 9, Sum: -at,
		Pos: []api.Bucket{{Index: 1, Count: uint64(at)}, {Index: 4, Count: 2}},
		Neg: []api.Bucket{{Index: 5, Count: 1}},
	}}
}

// samples are some at times.
func samples(times ...int64) []api.Sample {
	var l []api.Sample
	for _, at := range times {
		l = append(l, sample(at))
	}
	return l
}

// alike says whether samples are the same.
func alike(a, b []api.Sample) bool {
	return slices.EqualFunc(a, b, func(x, y api.Sample) bool {
		return x.T == y.T && x.H.Kind == y.H.Kind && x.H.Schema == y.H.Schema && x.H.ZeroAt == y.H.ZeroAt && x.H.Zero == y.H.Zero &&
			x.H.Count == y.H.Count && x.H.Sum == y.H.Sum && slices.Equal(x.H.Pos, y.H.Pos) && slices.Equal(x.H.Neg, y.H.Neg)
	})
}

func TestKeep(t *testing.T) {
	for _, c := range []struct {
		what    string
		s       Set
		in, out []int64
	}{
		{"no samples", set(1, 2), nil, nil},
		{"no samples, no times", Set{}, nil, nil},
		{"no times", Set{}, []int64{0, 1, end}, []int64{0, 1, end}},
		{"all times", set(0, end), []int64{0, 1, end}, nil},
		{"each edge", set(2, 4, 8, 8), []int64{1, 2, 3, 4, 5, 7, 8, 9}, []int64{1, 5, 7, 9}},
		{"the ends", set(0, 0, end, end), []int64{0, 1, end - 1, end}, []int64{1, end - 1}},
		{"in any order", set(2, 4), []int64{9, 3, 0, 9, 4, 5, 1}, []int64{9, 0, 9, 5, 1}},
		{"times that may not be", set(0, end), []int64{-1, 0, end + 1, math.MinInt64, math.MaxInt64}, []int64{-1, end + 1, math.MinInt64, math.MaxInt64}},
	} {
		in := samples(append(c.in, 6)...)
		if got := c.s.Keep(in[:len(in)-1]); !alike(got, samples(c.out...)) {
			t.Errorf("%s: Keep is %v; want %v", c.what, got, c.out)
		}
		if !alike(in, samples(append(c.in, 6)...)) {
			t.Errorf("%s: the samples are %v now", c.what, in)
		}
	}
	if got := set(1, 1).Keep([]api.Sample{{T: 1}, {T: 2}, {}}); !alike(got, []api.Sample{{T: 2}, {}}) {
		t.Errorf("of samples without buckets: %v", got)
	}
	for _, text := range pictures(8) {
		var all, rest []int64
		for i := range text {
			all = append(all, int64(i)+5)
			if text[i] == '.' {
				rest = append(rest, int64(i)+5)
			}
		}
		if got := Of(runs(5, text)...).Keep(samples(all...)); !alike(got, samples(rest...)) {
			t.Errorf("%s: Keep is %v; want %v", text, got, rest)
		}
	}
}

// P14.2

// classes are how long counts are laid.
var classes = []int{0, 3, 7, 12, 20, 32, 64}

// in is a count as bits, laid in a class.
func in(class int, n uint64) string {
	s := strings.Repeat("1", class)
	if class < 6 {
		s += "0"
	}
	digits := strconv.FormatUint(n, 2)
	if n == 0 {
		digits = ""
	}
	return s + strings.Repeat("0", classes[class]-len(digits)) + digits
}

// count is a count as bits.
func count(n uint64) string {
	for class, long := range classes {
		if long == 64 || n < 1<<long {
			return in(class, n)
		}
	}
	return ""
}

// counts are counts as bits, one behind the other.
func counts(l ...uint64) string {
	s := ""
	for _, n := range l {
		s += count(n)
	}
	return s
}

// packed are the bytes of bits, with noughts at the end.
func packed(s string) []byte {
	b := make([]byte, (len(s)+7)/8)
	for i := range s {
		if s[i] == '1' {
			b[i/8] |= 128 >> (i % 8)
		}
	}
	return b
}

// laid are the bits of a set, behind a 1 and ahead of a 1.
func laid(s Set) string {
	var w bits.Writer
	w.Bit(true)
	s.Lay(&w)
	w.Bit(true)
	text := ""
	for i := range w.Len() {
		text += string('0' + w.Bytes()[i/8]>>(7-i%8)&1)
	}
	return text[1 : len(text)-1]
}

func TestLay(t *testing.T) {
	for _, c := range []struct {
		s    Set
		want string
	}{
		{Set{}, counts(0)},
		{Of(), "0"},
		{set(0, 0), counts(1, 0, 0)},
		{set(0, 0), "1000100"},
		{set(1, 1), counts(1, 1, 0)},
		{set(0, 1), counts(1, 0, 1)},
		{set(5, 9), counts(1, 5, 4)},
		{set(1, 3, 4, 5, 9, 9), counts(2, 1, 4, 2, 0)},
		{set(0, 0, 2, 2), counts(2, 0, 0, 0, 0)},
		{set(0, 0, 3, 3, 6, 9), counts(3, 0, 0, 1, 0, 1, 3)},
		{set(0, end), counts(1, 0, end)},
		{set(end, end), counts(1, end, 0)},
		{set(0, 0, end, end), counts(2, 0, 0, end-2, 0)},
		{set(0, 0, 2, end), counts(2, 0, 0, 0, end-2)},
		{set(1000, 2000, 1<<30, 1<<31), counts(2, 1000, 1000, 1<<30-2002, 1<<30)},
	} {
		if got := laid(c.s); got != c.want {
			t.Errorf("Lay of %v is %s; want %s", c.s.Ranges(), got, c.want)
		}
	}
	for _, text := range pictures(9) {
		l := runs(3, text)
		want := count(uint64(len(l)))
		from := int64(0)
		for _, r := range l {
			want += counts(uint64(r.From-from), uint64(r.To-r.From))
			from = r.To + 2
		}
		if got := laid(Of(l...)); got != want {
			t.Errorf("Lay of %s is %s; want %s", text, got, want)
		}
	}
	set(1, 2).Lay(nil)
}

// take asserts what is taken of bits, and that just these are taken.
func take(t *testing.T, text string, most int, want []Range) {
	t.Helper()
	behind := counts(77, 3)
	r := bits.Read(packed(text + behind))
	has(t, text, Take(r, most), want)
	if a, b := r.Count(), r.Count(); a != 77 || b != 3 || r.Err() != api.OK || r.End() != api.OK {
		t.Errorf("behind %s: %d, %d, %d, %d", text, a, b, r.Err(), r.End())
	}
}

// refuse asserts that no set is taken of bits, and why.
func refuse(t *testing.T, what, text string, most int, want api.Errno) {
	t.Helper()
	r := bits.Read(packed(text))
	has(t, what, Take(r, most), nil)
	if r.Err() != want {
		t.Errorf("%s: %d; want %d", what, r.Err(), want)
	}
	if r.Count() != 0 || r.Bit() {
		t.Errorf("%s: the reader goes on", what)
	}
}

func TestTake(t *testing.T) {
	take(t, counts(0), 0, nil)
	take(t, counts(0), 1, nil)
	take(t, counts(0), math.MaxInt, nil)
	take(t, counts(1, 0, 0), 1, list(0, 0))
	take(t, counts(1, 0, end), 1, list(0, end))
	take(t, counts(1, end, 0), 1, list(end, end))
	take(t, counts(1, 5, end-5), 1, list(5, end))
	take(t, counts(2, 1, 4, 2, 0), 2, list(1, 5, 9, 9))
	take(t, counts(2, 1, 4, 2, 0), math.MaxInt, list(1, 5, 9, 9))
	take(t, counts(2, 0, 0, 0, 0), 2, list(0, 0, 2, 2))
	take(t, counts(2, 0, end-2, 0, 0), 2, list(0, end-2, end, end))
	take(t, counts(2, 0, 0, end-2, 0), 2, list(0, 0, end, end))
	take(t, counts(3, 0, 0, 1, 0, 1, 3), 3, list(0, 0, 3, 3, 6, 9))
}

func TestTakeNone(t *testing.T) {
	for _, c := range []struct {
		what string
		text string
		most int
		want api.Errno
	}{
		{"one range of none", counts(1, 0, 0), 0, api.ErrLimit},
		{"two of one", counts(2, 1, 4, 2, 0), 1, api.ErrLimit},
		{"three of two", counts(3, 0, 0, 0, 0, 0, 0), 2, api.ErrLimit},
		{"very many", counts(math.MaxUint64, 0, 0), math.MaxInt, api.ErrLimit},
		{"more than there can be, and none behind", counts(9), 8, api.ErrLimit},
		{"From above", counts(1, end+1, 0), 1, api.ErrLimit},
		{"the greatest From", counts(1, math.MaxUint64, 0), 1, api.ErrLimit},
		{"a From that would go round", counts(1, 1<<63, 0), 1, api.ErrLimit},
		{"To above", counts(1, 1, end), 1, api.ErrLimit},
		{"To one above", counts(1, end, 1), 1, api.ErrLimit},
		{"To less From above", counts(1, 0, end+1), 1, api.ErrLimit},
		{"both are the greatest", counts(1, end, end), 1, api.ErrLimit},
		{"the greatest To less From", counts(1, 0, math.MaxUint64), 1, api.ErrLimit},
		{"a To that would go round", counts(1, 5, math.MaxUint64-5), 1, api.ErrLimit},
		{"nothing is left for the second one", counts(2, 0, end, 0, 0), 2, api.ErrLimit},
		{"one time is left for it, that touches", counts(2, 0, end-1, 0, 0), 2, api.ErrLimit},
		{"the second one is too far", counts(2, 0, 0, end-1, 0), 2, api.ErrLimit},
		{"the second one is much too far", counts(2, 5, 0, end, 0), 2, api.ErrLimit},
		{"the second one is too long", counts(2, 0, 0, 0, end-1), 2, api.ErrLimit},
		{"the second one's number is above", counts(2, 0, 0, end+1, 0), 2, api.ErrLimit},
		{"the last of three", counts(3, 0, 0, 0, 0, end, end), 3, api.ErrLimit},
		{"no bits", "", 9, api.ErrShort},
		{"no ranges", in(1, 2), 9, api.ErrShort},
		// These end where a byte does: there are no noughts behind them.
		{"no numbers of the second one", counts(2, 100, 70000), 9, api.ErrShort},
		{"one number of the second one", counts(2, 100, 70000, 900), 9, api.ErrShort},
		{"a count that isn't the shortest one", in(1, 0), 9, api.ErrForm},
		{"a From that isn't", count(1) + in(2, 3) + count(0), 9, api.ErrForm},
		{"a To that isn't", counts(1, 0) + in(6, 1), 9, api.ErrForm},
		{"a To that isn't and is above", counts(2, 0, 0, 0) + in(6, 1<<31), 9, api.ErrForm},
	} {
		refuse(t, c.what, c.text, c.most, c.want)
		// A negative number has no ranges, either; whichever error there is.
		r := bits.Read(packed(c.text))
		has(t, c.what, Take(r, -1), nil)
		if r.Err() == api.OK {
			t.Errorf("%s: no error", c.what)
		}
	}
}

// An error that a reader has stays, and nothing is taken.
func TestTakeBehindAnError(t *testing.T) {
	good := counts(1, 5, 4)
	for _, c := range []struct {
		what string
		text string
		fail func(r *bits.Reader)
		want api.Errno
	}{
		{"short", good, func(r *bits.Reader) { r.Get(64) }, api.ErrShort},
		{"form", in(1, 0) + good, func(r *bits.Reader) { r.Count() }, api.ErrForm},
		{"limit", count(9) + good, func(r *bits.Reader) { r.Small(8) }, api.ErrLimit},
	} {
		r := bits.Read(packed(c.text))
		c.fail(r)
		for range 2 {
			has(t, c.what, Take(r, 9), nil)
			if r.Err() != c.want {
				t.Errorf("%s: %d; want %d", c.what, r.Err(), c.want)
			}
		}
	}
	has(t, "a nil reader", Take(nil, 9), nil)
	has(t, "a zero reader", Take(new(bits.Reader), 9), nil)
}

// parser takes bits of a text; what is wrong first.
type parser struct {
	text  string
	wrong api.Errno
}

// get takes so many bits.
func (p *parser) get(n int) uint64 {
	if p.wrong != api.OK {
		return 0
	}
	if n > len(p.text) {
		p.wrong = api.ErrShort
		return 0
	}
	var v uint64
	for range n {
		v = 2*v + uint64(p.text[0]-'0')
		p.text = p.text[1:]
	}
	return v
}

// count takes a count of at most so many.
func (p *parser) count(most int64) int64 {
	class := 0
	for class < 6 && p.get(1) == 1 {
		class++
	}
	n := p.get(classes[class])
	switch {
	case p.wrong != api.OK:
		return 0
	case in(class, n) != count(n):
		p.wrong = api.ErrForm
	case n > uint64(most):
		p.wrong = api.ErrLimit
	}
	return int64(n)
}

// set takes a set, as the chapter tells it.
func (p *parser) set(most int64) []Range {
	var l []Range
	n := p.count(most)
	begin := int64(0)
	for p.wrong == api.OK && n > 0 {
		from := begin + p.count(end)
		to := from + p.count(end)
		if p.wrong == api.OK && to > end {
			p.wrong = api.ErrLimit
		}
		l = append(l, Range{From: from, To: to})
		begin = to + 2
		n--
	}
	if p.wrong != api.OK {
		return nil
	}
	return l
}

// against holds what is taken of bytes against what is read of their text.
func against(t *testing.T, b []byte, most int) {
	t.Helper()
	text := ""
	for i := range 8 * len(b) {
		text += string('0' + b[i/8]>>(7-i%8)&1)
	}
	p := &parser{text: text}
	want := p.set(int64(most))
	r := bits.Read(b)
	s := Take(r, most)
	if !slices.Equal(s.Ranges(), want) || r.Err() != p.wrong || p.wrong == api.OK && r.Left() != len(p.text) {
		t.Fatalf("of %s, at most %d: %v, %d; want %v, %d", text, most, s.Ranges(), r.Err(), want, p.wrong)
	}
	if p.wrong == api.OK && !strings.HasPrefix(text, laid(s)) {
		t.Fatalf("of %s: laid again it is %s", text, laid(s))
	}
}

func TestAllBytes(t *testing.T) {
	against(t, nil, 9)
	for n := range 1 << 16 {
		for _, most := range []int{0, 1, 3, 100} {
			against(t, []byte{byte(n >> 8), byte(n)}, most)
		}
	}
	r := rand.New(rand.NewPCG(14, 2))
	for range 20000 {
		b := make([]byte, r.IntN(12))
		for i := range b {
			b[i] = byte(r.Uint32())
		}
		if len(b) > 0 {
			// So that there are some ranges, and not too many.
			b[0] = 0b10000000 | b[0]>>1
		}
		against(t, b, 7)
	}
}

// P14.3

// drawSet is a set of about so many ranges, near and far.
func drawSet(r *rand.Rand, n int) Set {
	var l []Range
	for range n {
		from := r.Int64N(1 << (1 + r.IntN(40)))
		l = append(l, Range{From: from, To: min(end, from+r.Int64N(1<<(1+r.IntN(36))))})
	}
	return Of(l...)
}

func TestSaidAndRead(t *testing.T) {
	sets := []Set{{}, set(0, end), set(0, 0), set(end, end), set(0, 0, end, end), set(0, end-2, end, end)}
	for _, text := range pictures(8) {
		sets = append(sets, Of(runs(0, text)...), Of(runs(end-7, text)...))
	}
	r := rand.New(rand.NewPCG(14, 3))
	for range 500 {
		sets = append(sets, drawSet(r, r.IntN(30)))
	}
	var many []Range
	for i := range int64(1 << 16) {
		many = append(many, Range{From: 3 * i, To: 3*i + i%2})
	}
	sets = append(sets, Of(many...))
	var w bits.Writer
	for _, s := range sets {
		s.Lay(&w)
	}
	reader := bits.Read(w.Bytes())
	for _, s := range sets {
		n := len(s.Ranges())
		if got := Take(reader, n); !Same(got, s) || !Same(s, got) || reader.Err() != api.OK {
			t.Fatalf("of %d ranges: %v, %d", n, got.Ranges(), reader.Err())
		}
		if n == 0 {
			continue
		}
		var one bits.Writer
		s.Lay(&one)
		short := bits.Read(one.Bytes())
		if got := Take(short, n-1); !got.Empty() || short.Err() != api.ErrLimit {
			t.Errorf("%d ranges of %d: %d", n, n-1, short.Err())
		}
		early := bits.Read(one.Bytes()[:len(one.Bytes())-1])
		if got := Take(early, n); !got.Empty() || early.Err() != api.ErrShort {
			t.Errorf("%d ranges that end early: %v, %d", n, got.Ranges(), early.Err())
		}
	}
	if reader.End() != api.OK {
		t.Errorf("behind all: %d", reader.End())
	}
}

// What is handed in isn't changed and isn't kept, and what is handed out isn't the set's.
func TestOwnMemory(t *testing.T) {
	in := list(9, 9, 4, 5, 1, 3, 70, 80)
	s := Of(in[:3]...)
	if !slices.Equal(in, list(9, 9, 4, 5, 1, 3, 70, 80)) {
		t.Errorf("Of made them %v", in)
	}
	one := list(1, 3, 70, 80)
	alone := Of(one[:1]...)
	in[0], in[1], in[2], one[0] = Range{}, Range{}, Range{}, Range{20, 30}
	has(t, "what was handed in has changed", s, list(1, 5, 9, 9))
	has(t, "what was handed in has changed", alone, list(1, 3))
	got := s.Ranges()
	got[0], got[1] = Range{7, 7}, Range{8, 8}
	_ = append(got[:1], Range{6, 6})
	_ = append(s.Ranges(), Range{100, 100})
	has(t, "what was handed out has changed", s, list(1, 5, 9, 9))

	x, y := s.And(set(20, 20)), s.And(set(30, 30))
	has(t, "one", x, list(1, 5, 9, 9, 20, 20))
	has(t, "another one", y, list(1, 5, 9, 9, 30, 30))
	has(t, "a third one", s.And(set(6, 8)), list(1, 9))
	has(t, "less", s.Without(Range{3, 4}), list(1, 2, 5, 5, 9, 9))
	has(t, "as it is", s.Without(Range{4, 3}), list(1, 5, 9, 9))
	as := s.Without(Range{4, 3})
	as.Ranges()[0] = Range{}
	has(t, "itself", s, list(1, 5, 9, 9))

	all := samples(2, 10, 12)
	// Two of one memory must be two in what is handed out.
	all[2].H.Pos = all[1].H.Pos
	kept := s.Keep(all)
	all[1].H.Pos[0].Count, all[1].H.Neg[0].Count, all[1].T = 99, 99, 99
	kept[0].H.Pos[0].Index = 55
	if kept[0].H.Pos[0].Count != 10 || kept[0].H.Neg[0].Count != 1 || kept[0].T != 10 || kept[1].H.Pos[0].Index != 1 || all[1].H.Pos[0].Index != 1 {
		t.Errorf("what was kept is %v of %v", kept, all)
	}
	kept[1].H.Neg[0].Index = 66
	if all[2].H.Neg[0].Index != 5 || len(all) != 3 || all[0].T != 2 {
		t.Errorf("the samples are %v", all)
	}
	everything := Set{}.Keep(all)
	everything[0] = api.Sample{}
	everything[1].H.Pos[1].Count = 44
	if all[0].T != 2 || all[1].H.Pos[1].Count != 2 {
		t.Errorf("the samples are %v", all)
	}
}
