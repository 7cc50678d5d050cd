package hist

import (
	"maps"
	"math"
	"math/big"
	"math/rand/v2"
	"pluvial/api"
	"pluvial/bound"
	"slices"
	"testing"
)

// The tests hold the package against a list of all that is wrong, reckoned by big numbers, and against sums index by index.

const top = math.MaxUint64

// least and most are the first and the last index, told one by one from the schema -4 on.
func least(schema int) int { return 1 - most(schema) }

func most(schema int) int {
	return [...]int{64, 128, 256, 512, 1024, 2048, 4096, 8192, 16384, 32768, 65536, 131072, 262144}[schema+4]
}

// schemas are all that there are.
func schemas() []int { return []int{-4, -3, -2, -1, 0, 1, 2, 3, 4, 5, 6, 7, 8} }

// usual may be: its first buckets begin just at its ZeroAt.
func usual() api.Hist {
	return api.Hist{
		Kind: api.Counter, Schema: 0, ZeroAt: -512, Zero: 3, Count: 20, Sum: -7,
		Pos: []api.Bucket{{Index: -1, Count: 1}, {Index: 3, Count: 2}, {Index: 4, Count: 2}},
		Neg: []api.Bucket{{Index: -1, Count: 4}, {Index: 1023, Count: 5}, {Index: 1024, Count: 3}},
	}
}

// run are buckets that follow each other, each with one.
func run(first, long int) []api.Bucket {
	var l []api.Bucket
	for i := range long {
		l = append(l, api.Bucket{Index: first + i, Count: 1})
	}
	return l
}

// one is a list of one bucket.
func one(index int, count uint64) []api.Bucket { return []api.Bucket{{Index: index, Count: count}} }

// begins is where a bucket begins, in units.
func begins(schema, index int) int { return (index - 1) * (1 << (8 - schema)) }

// all is how many there are in all.
func all(h api.Hist) *big.Int {
	sum := new(big.Int).SetUint64(h.Zero)
	for _, b := range slices.Concat(h.Pos, h.Neg) {
		sum.Add(sum, new(big.Int).SetUint64(b.Count))
	}
	return sum
}

// wrong are all things that are wrong with a histogram, in the order in which they are told.
func wrong(h api.Hist) []api.Errno {
	var l []api.Errno
	tell := func(is bool, e api.Errno) {
		if is {
			l = append(l, e)
		}
	}
	tell(h.Kind != 0 && h.Kind != 1, api.ErrKind)
	right := h.Schema >= -4 && h.Schema <= 8
	tell(!right, api.ErrSchema)
	if !right {
		return l
	}
	tell(h.ZeroAt != -524288 && h.ZeroAt <= -262144 || h.ZeroAt > 262144, api.ErrZero)
	for _, side := range [][]api.Bucket{h.Pos, h.Neg} {
		tell(len(side) > 512, api.ErrLimit)
		for i, b := range side {
			inside := b.Index >= least(h.Schema) && b.Index <= most(h.Schema)
			tell(!inside, api.ErrRange)
			tell(i > 0 && side[max(i, 1)-1].Index >= b.Index, api.ErrBucket)
			tell(b.Count == 0, api.ErrCount)
			tell(inside && begins(h.Schema, b.Index) < h.ZeroAt, api.ErrZero)
		}
	}
	sum := all(h)
	tell(!sum.IsUint64(), api.ErrOver)
	tell(sum.Cmp(new(big.Int).SetUint64(h.Count)) != 0, api.ErrCount)
	return l
}

// first is the first of them.
func first(l []api.Errno) api.Errno {
	if len(l) == 0 {
		return api.OK
	}
	return l[0]
}

// equal says whether all is the same, field by field.
func equal(a, b api.Hist) bool {
	pos, neg := slices.Equal(a.Pos, b.Pos), slices.Equal(a.Neg, b.Neg)
	return pos && neg && [3]int{a.Kind, a.Schema, a.ZeroAt} == [3]int{b.Kind, b.Schema, b.ZeroAt} &&
		[2]uint64{a.Zero, a.Count} == [2]uint64{b.Zero, b.Count} && a.Sum == b.Sum
}

// copied is a histogram with lists of its own.
func copied(h api.Hist) api.Hist {
	h.Pos, h.Neg = append([]api.Bucket(nil), h.Pos...), append([]api.Bucket(nil), h.Neg...)
	return h
}

func checkCheck(t *testing.T, what string, h api.Hist, want api.Errno) {
	t.Helper()
	was := copied(h)
	if got := Check(h); got != want {
		t.Errorf("%s: Check(%v) = %d; want %d", what, h, got, want)
	}
	if !equal(h, was) {
		t.Errorf("%s: Check changed what it was handed", what)
	}
}

// P5.1

func TestCheckRight(t *testing.T) {
	for _, c := range []struct {
		what string
		h    api.Hist
	}{
		{"the usual one", usual()},
		{"the zero value", api.Hist{}},
		{"without observations", api.Hist{ZeroAt: api.NoZero}},
		{"lists that are empty", api.Hist{Pos: []api.Bucket{}, Neg: []api.Bucket{}}},
		{"a gauge", api.Hist{Kind: api.Gauge, ZeroAt: api.NoZero}},
		{"only about nothing", api.Hist{ZeroAt: api.NoZero, Zero: 9, Count: 9}},
		{"as many as may be about nothing", api.Hist{Zero: top, Count: top}},
		{"as many as may be in a bucket", api.Hist{Count: top, Pos: one(1, top)}},
		{"as many as may be together", api.Hist{Zero: 1, Count: top, Pos: one(1, 1<<63), Neg: one(1, 1<<63-2)}},
		{"512 on each side", api.Hist{Count: 1024, Pos: run(1, 512), Neg: run(1, 512)}},
		{"one index on both sides", api.Hist{Count: 2, Pos: one(5, 1), Neg: one(5, 1)}},
		{"the least sum", api.Hist{Sum: math.MinInt64}},
		{"the greatest sum, of none", api.Hist{Sum: math.MaxInt64}},
		{"buckets that begin at ZeroAt", api.Hist{ZeroAt: 256, Count: 2, Pos: one(2, 1), Neg: one(2, 1)}},
		{"ZeroAt within a bucket that isn't there", api.Hist{ZeroAt: 255, Count: 2, Pos: one(2, 1), Neg: one(2, 1)}},
	} {
		checkCheck(t, c.what, c.h, api.OK)
	}
}

func TestCheckKind(t *testing.T) {
	for _, k := range []int{-1, 2, 3, 256, -256, math.MinInt, math.MaxInt} {
		h := usual()
		h.Kind = k
		checkCheck(t, "kind", h, api.ErrKind)
	}
}

func TestCheckSchema(t *testing.T) {
	for _, s := range []int{-5, 9, 64, -100, math.MinInt, math.MaxInt} {
		h := usual()
		h.Schema = s
		checkCheck(t, "schema", h, api.ErrSchema)
		checkCheck(t, "schema, and nothing else", api.Hist{Schema: s}, api.ErrSchema)
	}
}

func TestCheckZeroAt(t *testing.T) {
	for _, c := range []struct {
		at   int
		want api.Errno
	}{
		{api.NoZero, api.OK}, {api.NoZero + 1, api.ErrZero}, {api.NoZero - 1, api.ErrZero},
		{-1<<18 - 1, api.ErrZero}, {-1 << 18, api.ErrZero}, {-1<<18 + 1, api.OK},
		{0, api.OK}, {-1, api.OK}, {1, api.OK},
		{1<<18 - 1, api.OK}, {1 << 18, api.OK}, {1<<18 + 1, api.ErrZero},
		{1 << 19, api.ErrZero}, {math.MinInt, api.ErrZero}, {math.MaxInt, api.ErrZero},
	} {
		for _, s := range schemas() {
			checkCheck(t, "ZeroAt", api.Hist{Schema: s, ZeroAt: c.at, Zero: 1, Count: 1}, c.want)
		}
	}
}

// onSides are histograms with the buckets on one side, and on the other one.
func onSides(h api.Hist, l []api.Bucket) [2]api.Hist {
	h.Count = 0
	for _, b := range l {
		h.Count += b.Count
	}
	pos, neg := h, h
	pos.Pos, neg.Neg = l, l
	return [2]api.Hist{pos, neg}
}

func checkSides(t *testing.T, what string, h api.Hist, l []api.Bucket, want api.Errno) {
	t.Helper()
	for _, one := range onSides(h, l) {
		checkCheck(t, what, one, want)
	}
}

func TestCheckIndices(t *testing.T) {
	for _, s := range schemas() {
		h := api.Hist{Schema: s, ZeroAt: api.NoZero}
		checkSides(t, "the least", h, one(least(s), 1), api.OK)
		checkSides(t, "the greatest", h, one(most(s), 1), api.OK)
		checkSides(t, "both", h, []api.Bucket{{Index: least(s), Count: 1}, {Index: most(s), Count: 1}}, api.OK)
		for _, i := range []int{least(s) - 1, most(s) + 1, math.MinInt, math.MaxInt} {
			checkSides(t, "beyond", h, one(i, 1), api.ErrRange)
		}
		checkSides(t, "beyond, behind others", h, append(run(most(s)-3, 4), one(most(s)+1, 1)...), api.ErrRange)
		checkSides(t, "beyond, ahead of others", h, run(least(s)-1, 4), api.ErrRange)
	}
}

func TestCheckLimit(t *testing.T) {
	for _, s := range schemas() {
		if most(s)*2 < 513 {
			continue
		}
		h := api.Hist{Schema: s, ZeroAt: api.NoZero}
		for _, from := range []int{least(s), -200, most(s) - 512} {
			checkSides(t, "512", h, run(max(from, least(s)), 512), api.OK)
			checkSides(t, "513", h, run(max(from, least(s)), 513), api.ErrLimit)
		}
	}
	// So many are too many ahead of all that may be wrong with each.
	h := api.Hist{Schema: -4, ZeroAt: api.NoZero}
	checkSides(t, "512 of too few", h, run(-63, 512), api.ErrRange)
	checkSides(t, "513 of too few", h, run(-63, 513), api.ErrLimit)
	checkSides(t, "513 of one index", h, slices.Repeat(one(1, 1), 513), api.ErrLimit)
	checkSides(t, "513 empty ones", h, make([]api.Bucket, 513), api.ErrLimit)
	checkSides(t, "513 below ZeroAt", api.Hist{Schema: 8, ZeroAt: 1 << 18}, run(0, 513), api.ErrLimit)
}

func TestCheckOrder(t *testing.T) {
	h := api.Hist{ZeroAt: api.NoZero}
	for _, l := range [][]int{{1, 1}, {2, 1}, {1, 3, 3}, {1, 3, 2}, {-5, 0, -1}, {1024, -1023}, {0, 1, 2, 2, 3}} {
		var b []api.Bucket
		for _, i := range l {
			b = append(b, api.Bucket{Index: i, Count: 2})
		}
		checkSides(t, "order", h, b, api.ErrBucket)
	}
	checkSides(t, "order", h, []api.Bucket{{Index: -1023, Count: 2}, {Index: 0, Count: 1}, {Index: 1, Count: 2}}, api.OK)
}

func TestCheckEmptyOnes(t *testing.T) {
	h := api.Hist{ZeroAt: api.NoZero}
	for i := range 5 {
		l := run(-2, 5)
		l[i].Count = 0
		checkSides(t, "an empty one", h, l, api.ErrCount)
	}
}

func TestCheckBelowZeroAt(t *testing.T) {
	for _, s := range schemas() {
		for _, i := range []int{least(s) + 1, -3, 0, 1, 2, most(s)} {
			at := begins(s, i)
			l := one(i, 1)
			checkSides(t, "begins at ZeroAt", api.Hist{Schema: s, ZeroAt: at}, l, api.OK)
			checkSides(t, "begins just below", api.Hist{Schema: s, ZeroAt: at + 1}, l, api.ErrZero)
			checkSides(t, "ends at ZeroAt", api.Hist{Schema: s, ZeroAt: begins(s, i+1)}, l, api.ErrZero)
			if at-1 > -1<<18 {
				checkSides(t, "begins just above", api.Hist{Schema: s, ZeroAt: at - 1}, l, api.OK)
			}
		}
		for _, i := range []int{least(s), 0, most(s)} {
			checkSides(t, "at the end of places", api.Hist{Schema: s, ZeroAt: 1 << 18}, one(i, 1), api.ErrZero)
		}
		// The least one begins where no place is.
		checkSides(t, "the least one", api.Hist{Schema: s, ZeroAt: -1<<18 + 1}, one(least(s), 1), api.ErrZero)
	}
}

func TestCheckTogether(t *testing.T) {
	for _, c := range []struct {
		h    api.Hist
		want api.Errno
	}{
		{api.Hist{Zero: top, Count: top, Pos: one(1, 1)}, api.ErrOver},
		{api.Hist{Zero: top, Count: 0, Pos: one(1, 1)}, api.ErrOver},
		{api.Hist{Zero: top, Count: 0, Neg: one(1, 1)}, api.ErrOver},
		{api.Hist{Pos: one(1, 1), Neg: one(1, top)}, api.ErrOver},
		{api.Hist{Pos: []api.Bucket{{Index: 1, Count: 1 << 63}, {Index: 2, Count: 1 << 63}}}, api.ErrOver},
		{api.Hist{Neg: []api.Bucket{{Index: 1, Count: top}, {Index: 2, Count: top}, {Index: 3, Count: 2}}}, api.ErrOver},
		{api.Hist{Zero: 1 << 63, Count: top, Pos: one(1, 1<<62), Neg: one(1, 1<<62-1)}, api.OK},
		{api.Hist{Zero: 1 << 63, Count: 0, Pos: one(1, 1<<62), Neg: one(1, 1<<62)}, api.ErrOver},
		{api.Hist{Count: 1}, api.ErrCount},
		{api.Hist{Count: top}, api.ErrCount},
		{api.Hist{Zero: 1}, api.ErrCount},
		{api.Hist{Zero: 2, Count: 3}, api.ErrCount},
		{api.Hist{Count: 2, Pos: one(1, 1)}, api.ErrCount},
		{api.Hist{Count: 0, Neg: one(1, 1)}, api.ErrCount},
		{api.Hist{Zero: 1, Count: 2, Pos: one(1, 1), Neg: one(1, 1)}, api.ErrCount},
	} {
		checkCheck(t, "together", c.h, c.want)
	}
}

// fault is one thing that is made wrong, whatever else is.
type fault struct {
	e    api.Errno
	make func(h *api.Hist)
}

// faults stand in the order in which they are told.
func faults() []fault {
	l := []fault{
		{api.ErrKind, func(h *api.Hist) { h.Kind = 2 }},
		{api.ErrSchema, func(h *api.Hist) { h.Schema = 9 }},
		{api.ErrZero, func(h *api.Hist) { h.ZeroAt = -1 << 18 }},
	}
	for _, side := range []func(h *api.Hist) *[]api.Bucket{
		func(h *api.Hist) *[]api.Bucket { return &h.Pos },
		func(h *api.Hist) *[]api.Bucket { return &h.Neg },
	} {
		l = append(l,
			fault{api.ErrLimit, func(h *api.Hist) { *side(h) = append(*side(h), make([]api.Bucket, 510)...) }},
			fault{api.ErrRange, func(h *api.Hist) { (*side(h))[0].Index = -1024 }},
			fault{api.ErrCount, func(h *api.Hist) { (*side(h))[0].Count = 0 }},
			fault{api.ErrBucket, func(h *api.Hist) { (*side(h))[1].Index = -1 }},
			fault{api.ErrCount, func(h *api.Hist) { (*side(h))[1].Count = 0 }},
			fault{api.ErrRange, func(h *api.Hist) { (*side(h))[2].Index = 1025 }},
			fault{api.ErrCount, func(h *api.Hist) { (*side(h))[2].Count = 0 }},
		)
	}
	return append(l,
		fault{api.ErrOver, func(h *api.Hist) { h.Zero = top }},
		fault{api.ErrCount, func(h *api.Hist) { h.Count = 1 }},
	)
}

func TestCheckTwoWrong(t *testing.T) {
	l := faults()
	for i, a := range l {
		for _, b := range l[i:] {
			h := usual()
			a.make(&h)
			b.make(&h)
			checkCheck(t, "two", h, a.e)
		}
	}
}

// Of one bucket: whether it is the schema's, above the one ahead, not empty, not below ZeroAt.
func TestCheckTwoWrongOfOne(t *testing.T) {
	for _, c := range []struct {
		at   int
		l    []api.Bucket
		want api.Errno
	}{
		{512, []api.Bucket{{Index: -1024, Count: 1}}, api.ErrRange},
		{512, []api.Bucket{{Index: -1024, Count: 0}}, api.ErrRange},
		{512, []api.Bucket{{Index: 1025, Count: 0}}, api.ErrRange},
		{512, []api.Bucket{{Index: 2, Count: 0}}, api.ErrCount},
		{512, []api.Bucket{{Index: 2, Count: 1}}, api.ErrZero},
		{512, []api.Bucket{{Index: 3, Count: 1}, {Index: 2, Count: 0}}, api.ErrBucket},
		{512, []api.Bucket{{Index: 3, Count: 1}, {Index: 2, Count: 1}}, api.ErrBucket},
		{512, []api.Bucket{{Index: 3, Count: 1}, {Index: -1024, Count: 1}}, api.ErrRange},
		{512, []api.Bucket{{Index: 2, Count: 1}, {Index: 2, Count: 1}}, api.ErrZero},
		{512, []api.Bucket{{Index: 2, Count: 1}, {Index: 1025, Count: 0}}, api.ErrZero},
		{512, []api.Bucket{{Index: 3, Count: 0}, {Index: 1025, Count: 1}}, api.ErrCount},
		{512, []api.Bucket{{Index: 3, Count: 1}, {Index: 3, Count: 0}, {Index: 1025, Count: 1}}, api.ErrBucket},
		{512, []api.Bucket{{Index: 3, Count: 1}, {Index: 4, Count: 0}, {Index: 4, Count: 1}}, api.ErrCount},
		{512, []api.Bucket{{Index: 1025, Count: top}, {Index: 1025, Count: top}}, api.ErrRange},
		{512, []api.Bucket{{Index: 4, Count: top}, {Index: 4, Count: top}}, api.ErrBucket},
		{512, []api.Bucket{{Index: 4, Count: top}, {Index: 5, Count: top}}, api.ErrOver},
	} {
		checkSides(t, "of one", api.Hist{ZeroAt: c.at}, c.l, c.want)
	}
}

// drawn is a histogram that may be, or has now and then something wrong.
func drawn(r *rand.Rand, often int) api.Hist {
	now := func() bool { return r.IntN(often) == 0 }
	s := r.IntN(13) - 4
	h := api.Hist{Kind: r.IntN(2), Schema: s, ZeroAt: api.NoZero, Zero: r.Uint64N(4), Sum: r.Int64() - r.Int64()}
	if r.IntN(2) == 0 {
		h.ZeroAt = begins(s, least(s)+1+r.IntN(8)) - r.IntN(2)
	}
	for _, side := range []*[]api.Bucket{&h.Pos, &h.Neg} {
		i := least(s) + r.IntN(10)
		for range r.IntN(5) {
			i += 1 + r.IntN(3)
			*side = append(*side, api.Bucket{Index: i, Count: 1 + r.Uint64N(3)})
		}
		for k := range *side {
			if now() {
				(*side)[k].Count = []uint64{0, 1 << 63, top}[r.IntN(3)]
			}
			if now() {
				(*side)[k].Index += r.IntN(9) - 4
			}
			if now() {
				(*side)[k].Index = []int{least(s) - 1, least(s), most(s), most(s) + 1, math.MinInt, math.MaxInt}[r.IntN(6)]
			}
		}
	}
	h.Count = all(h).Uint64()
	if now() {
		h.Count += r.Uint64N(3) - 1
	}
	if now() {
		h.Kind = r.IntN(5) - 1
	}
	if now() {
		h.ZeroAt = []int{-1 << 18, 1 - 1<<18, 1 << 18, 1<<18 + 1, math.MinInt, math.MaxInt}[r.IntN(6)]
	}
	if now() && now() {
		h.Schema = r.IntN(20) - 8
	}
	return h
}

func TestCheckDrawn(t *testing.T) {
	r := rand.New(rand.NewPCG(5, 1))
	seen := map[api.Errno]int{}
	for n := range 60000 {
		h := drawn(r, []int{4, 12, 40}[n%3])
		want := first(wrong(h))
		checkCheck(t, "drawn", h, want)
		seen[want]++
	}
	for _, e := range []api.Errno{api.OK, api.ErrKind, api.ErrSchema, api.ErrZero, api.ErrRange, api.ErrBucket, api.ErrCount, api.ErrOver} {
		if seen[e] < 100 {
			t.Errorf("only %d were drawn for the error %d", seen[e], e)
		}
	}
}

// checkMake asserts what Make answers, that it changes nothing, and that what is made may be.
func checkMake(t *testing.T, h api.Hist, pos, neg []api.Bucket, want api.Hist, wantE api.Errno) {
	t.Helper()
	was, wasPos, wasNeg := copied(h), slices.Clone(pos), slices.Clone(neg)
	got, e := Make(h, pos, neg)
	if !equal(got, want) || e != wantE {
		t.Errorf("Make(%v, %v, %v) = %v, %d; want %v, %d", h, pos, neg, got, e, want, wantE)
	}
	if !equal(h, was) || !slices.Equal(pos, wasPos) || !slices.Equal(neg, wasNeg) {
		t.Error("Make changed what it was handed")
	}
	if e == api.OK && first(wrong(got)) != api.OK {
		t.Errorf("what is made, %v, may not be: %v", got, wrong(got))
	}
}

func checkMakeWrong(t *testing.T, h api.Hist, pos, neg []api.Bucket, want api.Errno) {
	t.Helper()
	checkMake(t, h, pos, neg, api.Hist{}, want)
}

func TestMakeTold(t *testing.T) {
	h := api.Hist{Kind: api.Gauge, Schema: 1, ZeroAt: -256, Zero: 2, Sum: -5}
	want := h
	want.Count, want.Pos = 5, []api.Bucket{{Index: 1, Count: 1}, {Index: 3, Count: 2}}
	checkMake(t, h, []api.Bucket{{Index: 3, Count: 2}, {Index: 1, Count: 1}}, nil, want, api.OK)

	want.Neg, want.Pos = want.Pos, nil
	checkMake(t, h, nil, []api.Bucket{{Index: 3, Count: 2}, {Index: 1, Count: 1}}, want, api.OK)

	want.Count, want.Pos, want.Neg = 25,
		[]api.Bucket{{Index: -1, Count: 4}, {Index: 2, Count: 7}}, []api.Bucket{{Index: 2, Count: 12}}
	checkMake(t, h,
		[]api.Bucket{{Index: 2, Count: 1}, {Index: -1, Count: 4}, {Index: 2, Count: 4}, {Index: 7, Count: 0}, {Index: 2, Count: 2}},
		[]api.Bucket{{Index: 2, Count: 0}, {Index: 2, Count: 6}, {Index: 2, Count: 6}, {Index: 3, Count: 0}}, want, api.OK)

	// What the histogram had of its own is gone, and plays no part.
	h.Count, h.Pos, h.Neg = 77, []api.Bucket{{Index: 1 << 40, Count: top}}, make([]api.Bucket, 600)
	want.Count, want.Pos, want.Neg = 2, nil, nil
	checkMake(t, h, nil, nil, want, api.OK)
	checkMake(t, h, []api.Bucket{}, []api.Bucket{{Index: 4}, {Index: 4}}, want, api.OK)
	want.Count, want.Neg = 3, one(4, 1)
	checkMake(t, h, nil, one(4, 1), want, api.OK)
}

func TestMakeNothing(t *testing.T) {
	for _, s := range schemas() {
		h := api.Hist{Schema: s, ZeroAt: api.NoZero}
		checkMake(t, h, nil, nil, h, api.OK)
		checkMake(t, h, []api.Bucket{}, make([]api.Bucket, 3), h, api.OK)
	}
	checkMake(t, api.Hist{}, nil, nil, api.Hist{}, api.OK)
}

// Empty ones are left out ahead of all else: wherever they are, and however many.
func TestMakeEmptyOnes(t *testing.T) {
	h := api.Hist{ZeroAt: 256}
	l := []api.Bucket{{Index: math.MinInt}, {Index: math.MaxInt}, {Index: -5}, {Index: 1}, {Index: 1025}}
	checkMake(t, h, l, l, h, api.OK)
	for i := range 2000 {
		l = append(l, api.Bucket{Index: i})
	}
	want := h
	want.Count, want.Pos, want.Neg = 1, one(2, 1), nil
	checkMake(t, h, append(one(2, 1), l...), l, want, api.OK)
}

func TestMakeEnds(t *testing.T) {
	for _, s := range schemas() {
		h := api.Hist{Schema: s, ZeroAt: api.NoZero}
		ends := []api.Bucket{{Index: least(s), Count: 1}, {Index: most(s), Count: 2}}
		want := h
		want.Count, want.Pos, want.Neg = 6, ends, ends
		checkMake(t, h, []api.Bucket{ends[1], ends[0]}, []api.Bucket{ends[1], ends[0]}, want, api.OK)
		for _, i := range []int{least(s) - 1, most(s) + 1, math.MinInt, math.MaxInt} {
			checkMakeWrong(t, h, one(i, 1), nil, api.ErrRange)
			checkMakeWrong(t, h, nil, one(i, 1), api.ErrRange)
			checkMakeWrong(t, h, append(ends, one(i, 1)...), ends, api.ErrRange)
		}
	}
}

func TestMakeLimit(t *testing.T) {
	h := api.Hist{Schema: 3, ZeroAt: api.NoZero}
	want := h
	want.Count, want.Pos, want.Neg = 2048, run(-300, 512), run(5, 512)
	for i := range 512 {
		want.Pos[i].Count, want.Neg[i].Count = 2, 2
	}
	pos := slices.Concat(run(-300, 512), run(-300, 512))
	neg := slices.Concat(run(5, 512), run(5, 512))
	slices.Reverse(pos)
	// How many there are is counted when those of one index are together.
	checkMake(t, h, pos, neg, want, api.OK)
	checkMakeWrong(t, h, append(pos, one(212, 1)...), neg, api.ErrLimit)
	checkMakeWrong(t, h, pos, append(neg, one(4, 1)...), api.ErrLimit)
	checkMakeWrong(t, h, run(0, 513), nil, api.ErrLimit)
	checkMakeWrong(t, h, nil, run(0, 513), api.ErrLimit)
	checkMakeWrong(t, h, run(1<<40, 513), nil, api.ErrLimit)
}

func TestMakeZeroAt(t *testing.T) {
	for _, s := range schemas() {
		for _, i := range []int{least(s) + 1, 0, 1, most(s)} {
			h := api.Hist{Schema: s, ZeroAt: begins(s, i)}
			want := h
			want.Count, want.Pos, want.Neg = 3, one(i, 1), one(i, 2)
			checkMake(t, h, one(i, 1), one(i, 2), want, api.OK)
			h.ZeroAt++
			checkMakeWrong(t, h, one(i, 1), nil, api.ErrZero)
			checkMakeWrong(t, h, nil, one(i, 1), api.ErrZero)
		}
		h := api.Hist{Schema: s, ZeroAt: 1 << 18, Zero: 5}
		checkMakeWrong(t, h, one(most(s), 1), nil, api.ErrZero)
		want := h
		want.Count = 5
		checkMake(t, h, nil, nil, want, api.OK)
		for _, at := range []int{-1 << 18, 1<<18 + 1, api.NoZero + 1, api.NoZero - 1, math.MinInt, math.MaxInt} {
			checkMakeWrong(t, api.Hist{Schema: s, ZeroAt: at}, nil, nil, api.ErrZero)
		}
	}
}

func TestMakeOver(t *testing.T) {
	h := api.Hist{ZeroAt: api.NoZero, Zero: 2}
	want := h
	want.Count, want.Pos, want.Neg = top, one(1, 1<<63), one(1, 1<<63-3)
	halves := []api.Bucket{{Index: 1, Count: 1 << 62}, {Index: 1, Count: 1 << 62}}
	checkMake(t, h, halves, one(1, 1<<63-3), want, api.OK)
	checkMakeWrong(t, h, halves, one(1, 1<<63-2), api.ErrOver)
	checkMakeWrong(t, h, one(1, 1<<63-2), halves, api.ErrOver)
	checkMakeWrong(t, h, append(halves, halves...), nil, api.ErrOver)
	checkMakeWrong(t, h, nil, append(halves, halves...), api.ErrOver)
	checkMakeWrong(t, h, []api.Bucket{{Index: 1, Count: top}, {Index: 1, Count: 1}}, nil, api.ErrOver)
	checkMakeWrong(t, h, []api.Bucket{{Index: 1, Count: top}, {Index: 2, Count: top}}, nil, api.ErrOver)
	checkMakeWrong(t, h, one(1, top-1), nil, api.ErrOver)
	// Twice 2^64 and more come to few, if they go round.
	checkMakeWrong(t, h, append(halves, append(halves, halves...)...), append(halves, halves...), api.ErrOver)

	want = api.Hist{Zero: top, Count: top}
	checkMake(t, api.Hist{Zero: top}, nil, make([]api.Bucket, 9), want, api.OK)
	checkMakeWrong(t, api.Hist{Zero: top}, one(1, 1), nil, api.ErrOver)
}

// Too many observations are told ahead of all else, also those of buckets that may not be.
func TestMakeTwoWrong(t *testing.T) {
	over := []api.Bucket{{Index: 1, Count: top}, {Index: 1, Count: 1}}
	for _, h := range []api.Hist{{Kind: 2}, {Schema: 9}, {Schema: -5}, {ZeroAt: 1<<18 + 1}, {ZeroAt: 1 << 18}} {
		checkMakeWrong(t, h, over, nil, api.ErrOver)
		checkMakeWrong(t, h, nil, over, api.ErrOver)
		checkMakeWrong(t, h, append(run(0, 600), over...), nil, api.ErrOver)
	}
	far := []api.Bucket{{Index: 1025, Count: top}, {Index: -1024, Count: 1}}
	checkMakeWrong(t, api.Hist{}, far, nil, api.ErrOver)
	checkMakeWrong(t, api.Hist{}, nil, far, api.ErrOver)

	l := run(-1024, 600)
	checkMakeWrong(t, api.Hist{Kind: 2, Schema: 9, ZeroAt: 1 << 30}, l, nil, api.ErrKind)
	checkMakeWrong(t, api.Hist{Kind: -1, Schema: 0, ZeroAt: 1 << 30}, l, nil, api.ErrKind)
	checkMakeWrong(t, api.Hist{Schema: 9, ZeroAt: 1 << 30}, l, nil, api.ErrSchema)
	checkMakeWrong(t, api.Hist{ZeroAt: 1 << 30}, l, nil, api.ErrZero)
	checkMakeWrong(t, api.Hist{ZeroAt: 1 << 18}, l, nil, api.ErrLimit)
	checkMakeWrong(t, api.Hist{ZeroAt: 1 << 18}, l[:512], nil, api.ErrRange)
	checkMakeWrong(t, api.Hist{ZeroAt: 1 << 18}, l[1:513], nil, api.ErrZero)
	// The side above is told first, whole.
	checkMakeWrong(t, api.Hist{ZeroAt: 512}, one(2, 1), l, api.ErrZero)
	checkMakeWrong(t, api.Hist{ZeroAt: 512}, one(3, 1), l, api.ErrLimit)
	checkMakeWrong(t, api.Hist{ZeroAt: 512}, one(1025, 1), one(2, 1), api.ErrRange)
	// The least index is the first one that is told, wherever it was handed in.
	checkMakeWrong(t, api.Hist{ZeroAt: 512}, []api.Bucket{{Index: 1025, Count: 1}, {Index: 2, Count: 1}}, nil, api.ErrZero)
	checkMakeWrong(t, api.Hist{ZeroAt: 512}, []api.Bucket{{Index: 2, Count: 1}, {Index: -1024, Count: 1}}, nil, api.ErrRange)
}

// gathered are buckets together, index by index.
func gathered(l []api.Bucket) []api.Bucket {
	var indices []int
	for _, b := range l {
		if b.Count != 0 {
			indices = append(indices, b.Index)
		}
	}
	slices.Sort(indices)
	var out []api.Bucket
	for _, i := range slices.Compact(indices) {
		var n uint64
		for _, b := range l {
			if b.Index == i {
				n += b.Count
			}
		}
		out = append(out, api.Bucket{Index: i, Count: n})
	}
	return out
}

func TestMakeDrawn(t *testing.T) {
	r := rand.New(rand.NewPCG(5, 2))
	seen := map[api.Errno]int{}
	for n := range 30000 {
		h := drawn(r, []int{6, 40, 100}[n%3])
		end := least(max(-4, min(h.Schema, 8)))
		from := []int{end - 1, end, end, 0, -3}[r.IntN(5)]
		var l [2][]api.Bucket
		for side := range 2 {
			for range r.IntN(12) {
				l[side] = append(l[side], api.Bucket{Index: from + r.IntN(8), Count: r.Uint64N(3)})
			}
		}
		want := h
		want.Pos, want.Neg = gathered(l[0]), gathered(l[1])
		want.Count = all(want).Uint64()
		e := first(wrong(want))
		if e != api.OK {
			want = api.Hist{}
		}
		checkMake(t, h, l[0], l[1], want, e)
		seen[e]++
	}
	for _, e := range []api.Errno{api.OK, api.ErrKind, api.ErrSchema, api.ErrZero, api.ErrRange} {
		if seen[e] < 50 {
			t.Errorf("only %d were drawn for the error %d", seen[e], e)
		}
	}
}

// The room behind the lists isn't written, and what is made is new.
func TestMakeIsNew(t *testing.T) {
	room := []api.Bucket{{Index: 3, Count: 2}, {Index: 1, Count: 1}, {Index: 7, Count: 7}, {Index: 8, Count: 8}}
	was := slices.Clone(room)
	h, e := Make(api.Hist{}, room[:2], room[:2])
	if e != api.OK {
		t.Fatal(e)
	}
	again, _ := Make(h, room[:2], room[:2])
	_ = append(h.Pos, run(100, 9)...)
	_ = append(h.Neg, run(100, 9)...)
	h.Pos[0].Count, h.Neg[0].Count = 50, 60
	if !slices.Equal(room, was) {
		t.Errorf("%v", room)
	}
	want := []api.Bucket{{Index: 1, Count: 1}, {Index: 3, Count: 2}}
	if !slices.Equal(again.Pos, want) || !slices.Equal(again.Neg, want) || h.Pos[0].Count != 50 {
		t.Errorf("%v, %v", again, h)
	}
	room[0], room[1] = room[2], room[3]
	if !slices.Equal(again.Pos, want) || !slices.Equal(again.Neg, want) {
		t.Errorf("%v", again)
	}
}

// P5.2

// others are histograms each of which differs from the usual one by one thing.
func others() []api.Hist {
	var l []api.Hist
	for _, change := range []func(h *api.Hist){
		func(h *api.Hist) { h.Kind = api.Gauge },
		func(h *api.Hist) { h.Schema++ },
		func(h *api.Hist) { h.ZeroAt-- },
		func(h *api.Hist) { h.ZeroAt = api.NoZero },
		func(h *api.Hist) { h.Zero++ },
		func(h *api.Hist) { h.Count++ },
		func(h *api.Hist) { h.Sum++ },
		func(h *api.Hist) { h.Sum = -h.Sum },
		func(h *api.Hist) { h.Pos[0].Index++ },
		func(h *api.Hist) { h.Pos[2].Count++ },
		func(h *api.Hist) { h.Neg[2].Index-- },
		func(h *api.Hist) { h.Neg[0].Count-- },
		func(h *api.Hist) { h.Pos = h.Pos[:2] },
		func(h *api.Hist) { h.Neg = h.Neg[1:] },
		func(h *api.Hist) { h.Pos = nil },
		func(h *api.Hist) { h.Neg = nil },
		func(h *api.Hist) { h.Pos = append(h.Pos, api.Bucket{}) },
		func(h *api.Hist) { h.Neg = append(h.Neg, h.Neg[2]) },
		func(h *api.Hist) { h.Pos[0], h.Pos[1] = h.Pos[1], h.Pos[0] },
		func(h *api.Hist) { h.Pos, h.Neg = h.Neg, h.Pos },
	} {
		h := usual()
		change(&h)
		l = append(l, h)
	}
	return l
}

func TestSame(t *testing.T) {
	l := append([]api.Hist{{}, usual()}, others()...)
	for i, a := range l {
		for k, b := range l {
			was, wasToo := copied(a), copied(b)
			if got := Same(a, b); got != (i == k) {
				t.Errorf("Same(%v, %v) is %t", a, b, got)
			}
			if !equal(a, was) || !equal(b, wasToo) {
				t.Error("Same changed what it was handed")
			}
		}
		if !Same(a, copied(a)) {
			t.Errorf("%v isn't the same as its copy", a)
		}
	}
	// Nil and empty lists are one.
	empty := api.Hist{Pos: []api.Bucket{}, Neg: []api.Bucket{}}
	if !Same(api.Hist{}, empty) || !Same(empty, api.Hist{}) {
		t.Error("nil and empty are not one")
	}
	full := api.Hist{Count: 1, Pos: one(1, 1), Neg: []api.Bucket{}}
	if !Same(full, api.Hist{Count: 1, Pos: one(1, 1)}) || Same(full, api.Hist{Count: 1, Neg: one(1, 1)}) {
		t.Error("nil and empty are not one, or sides are")
	}
}

func TestClone(t *testing.T) {
	for _, h := range append([]api.Hist{{}, usual(), {Pos: []api.Bucket{}, Neg: []api.Bucket{}}}, others()...) {
		was := copied(h)
		c := Clone(h)
		if !equal(c, h) || !equal(h, was) {
			t.Errorf("Clone(%v) = %v", h, c)
		}
		for i := range c.Pos {
			c.Pos[i] = api.Bucket{Index: 9, Count: 9}
		}
		for i := range c.Neg {
			c.Neg[i] = api.Bucket{Index: 8, Count: 8}
		}
		if !equal(h, was) {
			t.Errorf("by the clone %v became %v", was, h)
		}
	}
	// The room behind the lists is not the clone's.
	h := usual()
	room := slices.Clone(h.Pos)
	h.Pos, h.Neg = h.Pos[:1], h.Pos[:2]
	c := Clone(h)
	_ = append(c.Pos, run(50, 2)...)
	_ = append(c.Neg, run(60, 1)...)
	if !slices.Equal(h.Pos[:3], room) || !slices.Equal(c.Neg, room[:2]) {
		t.Errorf("%v, %v", h, c)
	}
}

func TestEmpty(t *testing.T) {
	for _, s := range schemas() {
		for _, kind := range []int{api.Counter, api.Gauge} {
			h := Empty(kind, s)
			if !equal(h, api.Hist{Kind: kind, Schema: s, ZeroAt: -524288}) || Check(h) != api.OK {
				t.Errorf("Empty(%d, %d) = %v", kind, s, h)
			}
		}
	}
	if Check(Empty(2, 0)) != api.ErrKind || Check(Empty(0, 9)) != api.ErrSchema || Check(Empty(-1, -5)) != api.ErrKind {
		t.Error("an empty one of what isn't may be")
	}
}

func TestAt(t *testing.T) {
	h := usual()
	was := copied(h)
	for _, c := range []struct {
		side, index int
		want        uint64
	}{
		{1, -1, 1}, {1, 3, 2}, {1, 4, 2}, {1, 0, 0}, {1, 1, 0}, {1, 2, 0}, {1, 5, 0}, {1, -2, 0}, {1, 1024, 0},
		{-1, -1, 4}, {-1, 1023, 5}, {-1, 1024, 3}, {-1, 3, 0}, {-1, 0, 0}, {-1, 1022, 0}, {-1, -2, 0},
		{0, 0, 3}, {0, -1, 3}, {0, 77, 3}, {0, math.MinInt, 3}, {0, math.MaxInt, 3},
		{2, 3, 2}, {math.MaxInt, 3, 2}, {-2, 1024, 3}, {math.MinInt, 1024, 3},
		{1, math.MinInt, 0}, {1, math.MaxInt, 0}, {-1, math.MinInt, 0}, {-1, math.MaxInt, 0},
	} {
		if got := At(h, c.side, c.index); got != c.want {
			t.Errorf("At(%d, %d) = %d; want %d", c.side, c.index, got, c.want)
		}
	}
	if !equal(h, was) {
		t.Error("At changed what it was handed")
	}
	for _, side := range []int{-1, 0, 1} {
		if got := At(Empty(0, 0), side, 0); got != 0 {
			t.Errorf("of an empty one: %d", got)
		}
	}
}

func TestAtOfMany(t *testing.T) {
	h := api.Hist{Schema: 8, ZeroAt: api.NoZero}
	for k := range 512 {
		h.Pos = append(h.Pos, api.Bucket{Index: 3*k - 700, Count: uint64(k + 1)})
		h.Neg = append(h.Neg, api.Bucket{Index: 2*k + least(8), Count: uint64(k + 1000)})
	}
	h.Count = all(h).Uint64()
	checkCheck(t, "many", h, api.OK)
	for k := range 512 {
		i, j := 3*k-700, 2*k+least(8)
		if At(h, 1, i) != uint64(k+1) || At(h, 1, i+1) != 0 || At(h, 1, i-1) != 0 {
			t.Errorf("above, at %d: %d", i, At(h, 1, i))
		}
		if At(h, -1, j) != uint64(k+1000) || At(h, -1, j+1) != 0 || At(h, -1, j-1) != 0 {
			t.Errorf("below, at %d: %d", j, At(h, -1, j))
		}
	}
}

func checkCells(t *testing.T, h api.Hist, want map[bound.Key]uint64) {
	t.Helper()
	was := copied(h)
	if got := Cells(h); !maps.Equal(got, want) {
		t.Errorf("Cells(%v) = %v; want %v", h, got, want)
	}
	if !equal(h, was) {
		t.Error("Cells changed what it was handed")
	}
}

func TestCells(t *testing.T) {
	checkCells(t, usual(), map[bound.Key]uint64{
		{}:                                 3,
		{Side: 1, Schema: 0, Index: -1}:    1,
		{Side: 1, Schema: 0, Index: 3}:     2,
		{Side: 1, Schema: 0, Index: 4}:     2,
		{Side: -1, Schema: 0, Index: -1}:   4,
		{Side: -1, Schema: 0, Index: 1023}: 5,
		{Side: -1, Schema: 0, Index: 1024}: 3,
	})
	checkCells(t, api.Hist{Schema: 5, ZeroAt: api.NoZero, Zero: 4, Count: 5, Neg: one(0, 1)}, map[bound.Key]uint64{
		{}:                              4,
		{Side: -1, Schema: 5, Index: 0}: 1,
	})
	checkCells(t, api.Hist{Schema: -4, Count: top, Pos: one(64, top)}, map[bound.Key]uint64{
		{Side: 1, Schema: -4, Index: 64}: top,
	})
	checkCells(t, Empty(1, 3), nil)
	checkCells(t, api.Hist{}, nil)
}

// What is handed out is new: a cell laid into it is in no other one.
func TestCellsAreNew(t *testing.T) {
	h := Empty(0, 0)
	first := Cells(h)
	second := Cells(h)
	first[bound.Key{Side: 1}] = 5
	if len(second) != 0 || len(Cells(h)) != 0 {
		t.Error("cells are shared")
	}
}

func TestCellsAndAt(t *testing.T) {
	r := rand.New(rand.NewPCG(5, 3))
	for range 3000 {
		h := drawn(r, 1000)
		if Check(h) != api.OK {
			continue
		}
		cells := Cells(h)
		var sum uint64
		for k, n := range cells {
			sum += n
			if n == 0 || k.Side != 0 && k.Schema != h.Schema || At(h, k.Side, k.Index) != n {
				t.Errorf("of %v the cell %v has %d", h, k, n)
			}
		}
		zero := uint64(len(cells)-len(h.Pos)-len(h.Neg)) * h.Zero
		if sum != h.Count || zero != h.Zero || cells[bound.Key{}] != h.Zero {
			t.Errorf("Cells(%v) = %v", h, cells)
		}
	}
}

// P5.3

func TestMadeMayBe(t *testing.T) {
	r := rand.New(rand.NewPCG(5, 4))
	for range 5000 {
		h := drawn(r, 8)
		var l []api.Bucket
		for range r.IntN(40) {
			l = append(l, api.Bucket{Index: r.IntN(60) - 30, Count: r.Uint64() >> r.IntN(64)})
		}
		if made, e := Make(h, l, h.Neg); e == api.OK && Check(made) != api.OK {
			t.Errorf("%v was made, but %d is wrong with it", made, Check(made))
		} else if e != api.OK && !equal(made, api.Hist{}) {
			t.Errorf("with the error %d: %v", e, made)
		}
	}
}

// What may be is made of its own buckets, in whatever order: the same.
func TestMadeOfItsOwn(t *testing.T) {
	r := rand.New(rand.NewPCG(5, 5))
	for range 5000 {
		h := drawn(r, 60)
		if Check(h) != api.OK {
			continue
		}
		pos, neg := slices.Clone(h.Pos), slices.Clone(h.Neg)
		slices.Reverse(neg)
		r.Shuffle(len(pos), func(i, k int) { pos[i], pos[k] = pos[k], pos[i] })
		got, e := Make(h, pos, neg)
		if e != api.OK || !Same(got, h) {
			t.Errorf("of the buckets of %v: %v, %d", h, got, e)
		}
	}
}

func TestSameByCells(t *testing.T) {
	r := rand.New(rand.NewPCG(5, 6))
	var l []api.Hist
	for len(l) < 400 {
		h := api.Hist{Kind: r.IntN(2), Schema: r.IntN(2), ZeroAt: []int{api.NoZero, -5}[r.IntN(2)], Zero: r.Uint64N(2), Sum: r.Int64N(2)}
		for _, side := range []*[]api.Bucket{&h.Pos, &h.Neg} {
			for i := range 2 {
				if r.IntN(2) == 0 {
					*side = append(*side, api.Bucket{Index: i + 1, Count: 1})
				}
			}
		}
		h.Count = all(h).Uint64()
		checkCheck(t, "by cells", h, api.OK)
		l = append(l, h)
	}
	twice := 0
	for i, a := range l {
		for _, b := range l[:i] {
			want := a.Kind == b.Kind && a.Schema == b.Schema && a.ZeroAt == b.ZeroAt && a.Sum == b.Sum && maps.Equal(Cells(a), Cells(b))
			if Same(a, b) != want {
				t.Errorf("Same(%v, %v) is %t", a, b, !want)
			}
			if want {
				twice++
			}
		}
	}
	if twice < 50 {
		t.Errorf("only %d are the same", twice)
	}
}

// R1: whatever is handed in, each call ends, and none panics.
func TestWhatever(t *testing.T) {
	r := rand.New(rand.NewPCG(5, 7))
	ends := []int{math.MinInt, math.MinInt + 1, -1 << 40, -1, 0, 1, 1 << 40, math.MaxInt - 1, math.MaxInt}
	end := func() int { return ends[r.IntN(len(ends))] }
	for range 5000 {
		h := drawn(r, 2)
		if r.IntN(2) == 0 {
			h.Schema, h.ZeroAt, h.Kind = end(), end(), end()
		}
		for i := range h.Pos {
			h.Pos[i].Index = end()
		}
		Check(h)
		Make(h, h.Neg, h.Pos)
		Same(h, Clone(h))
		Empty(end(), end())
		At(h, end(), end())
		Cells(h)
	}
}
