package meld

import (
	"maps"
	"math"
	"math/big"
	"math/rand/v2"
	"pluvial/api"
	"pluvial/hist"
	"slices"
	"testing"
)

// The tests hold the package against histograms told one by one, and against pictures: cells with big numbers, moved by fractions.

const top = math.MaxUint64

// end is the last place that there is.
const end = 1 << 18

// schemas are all that there are.
func schemas() []int { return []int{-4, -3, -2, -1, 0, 1, 2, 3, 4, 5, 6, 7, 8} }

// width is how many units a bucket has.
func width(schema int) int {
	return [...]int{4096, 2048, 1024, 512, 256, 128, 64, 32, 16, 8, 4, 2, 1}[schema+4]
}

// least and most are the first and the last index.
func least(schema int) int { return 1 - most(schema) }

func most(schema int) int { return end / width(schema) }

// begins and ends are where a bucket does, in units.
func begins(schema, index int) int { return ends(schema, index) - width(schema) }

func ends(schema, index int) int { return index * width(schema) }

// l are buckets by pairs: an index, and how many it has.
func l(pairs ...uint64) []api.Bucket {
	var out []api.Bucket
	for i := 0; i < len(pairs); i += 2 {
		out = append(out, api.Bucket{Index: int(pairs[i]), Count: pairs[i+1]})
	}
	return out
}

// run are buckets that follow each other, each with one.
func run(first, long int) []api.Bucket {
	var out []api.Bucket
	for i := range long {
		out = append(out, api.Bucket{Index: first + i, Count: 1})
	}
	return out
}

// of is a histogram with a Count that is right.
func of(h api.Hist) api.Hist {
	h.Count = h.Zero
	for _, b := range slices.Concat(h.Pos, h.Neg) {
		h.Count += b.Count
	}
	return h
}

// none is a histogram of nothing, with a schema.
func none(schema int) api.Hist { return api.Hist{Schema: schema, ZeroAt: api.NoZero} }

// turned is a histogram with its sides the other way round.
func turned(h api.Hist) api.Hist {
	h.Pos, h.Neg = h.Neg, h.Pos
	return h
}

// copied is a histogram with lists of its own.
func copied(h api.Hist) api.Hist {
	h.Pos, h.Neg = append([]api.Bucket(nil), h.Pos...), append([]api.Bucket(nil), h.Neg...)
	return h
}

// equal says whether all is the same, field by field.
func equal(a, b api.Hist) bool {
	return slices.Equal(a.Pos, b.Pos) && slices.Equal(a.Neg, b.Neg) &&
		[3]int{a.Kind, a.Schema, a.ZeroAt} == [3]int{b.Kind, b.Schema, b.ZeroAt} &&
		[2]uint64{a.Zero, a.Count} == [2]uint64{b.Zero, b.Count} && a.Sum == b.Sum
}

// told asserts an answer: it is the one that is asked for, it may be, and what was handed in is as it was.
func told(t *testing.T, what string, got api.Hist, e api.Errno, want api.Hist, wantE api.Errno) {
	t.Helper()
	if !equal(got, want) || e != wantE {
		t.Errorf("%s is %v, %d; want %v, %d", what, got, e, want, wantE)
	}
	if wrong := hist.Check(got); e == api.OK && wrong != api.OK {
		t.Errorf("%s is %v, with which %d is wrong", what, got, wrong)
	}
}

// kept asserts that histograms that are handed in are as they were.
func kept(t *testing.T, what string, now []api.Hist, do func()) {
	t.Helper()
	var was []api.Hist
	for _, h := range now {
		was = append(was, copied(h))
	}
	do()
	for i := range now {
		if !equal(now[i], was[i]) {
			t.Errorf("by %s %v became %v", what, was[i], now[i])
		}
	}
}

func checkDown(t *testing.T, h api.Hist, schema int, want api.Hist, wantE api.Errno) {
	t.Helper()
	kept(t, "Down", []api.Hist{h}, func() {
		t.Helper()
		got, e := Down(h, schema)
		told(t, "Down", got, e, want, wantE)
	})
}

func checkWiden(t *testing.T, h api.Hist, at int, want api.Hist, wantE api.Errno) {
	t.Helper()
	kept(t, "Widen", []api.Hist{h}, func() {
		t.Helper()
		got, e := Widen(h, at)
		told(t, "Widen", got, e, want, wantE)
	})
}

// checkAlike asserts what two are, made alike, in either order.
func checkAlike(t *testing.T, a, b, wantA, wantB api.Hist, wantE api.Errno) {
	t.Helper()
	kept(t, "Alike", []api.Hist{a, b}, func() {
		t.Helper()
		x, y, e := Alike(a, b)
		told(t, "the first of Alike", x, e, wantA, wantE)
		told(t, "the second of Alike", y, e, wantB, wantE)
		x, y, e = Alike(b, a)
		told(t, "the first of Alike, the other way round", x, e, wantB, wantE)
		told(t, "the second of Alike, the other way round", y, e, wantA, wantE)
	})
}

// checkAdd asserts what two are together, in either order.
func checkAdd(t *testing.T, a, b, want api.Hist, wantE api.Errno) {
	t.Helper()
	kept(t, "Add", []api.Hist{a, b}, func() {
		t.Helper()
		got, e := Add(a, b)
		told(t, "Add", got, e, want, wantE)
		got, e = Add(b, a)
		told(t, "Add, the other way round", got, e, want, wantE)
	})
}

// checkSub asserts what one is less the other one, and whether that was reset.
func checkSub(t *testing.T, a, b, want api.Hist, wantE api.Errno) {
	t.Helper()
	kept(t, "Sub", []api.Hist{a, b}, func() {
		t.Helper()
		got, e := Sub(a, b)
		told(t, "Sub", got, e, want, wantE)
		if got := Reset(b, a); got != (wantE == api.ErrCount) {
			t.Errorf("Reset(%v, %v) is %t", b, a, got)
		}
	})
}

func checkRise(t *testing.T, h []api.Hist, want api.Hist, wantE api.Errno) {
	t.Helper()
	kept(t, "Rise", h, func() {
		t.Helper()
		got, e := Rise(h...)
		told(t, "Rise", got, e, want, wantE)
	})
}

func checkSum(t *testing.T, h []api.Hist, want api.Hist, wantE api.Errno) {
	t.Helper()
	kept(t, "Sum", h, func() {
		t.Helper()
		got, e := Sum(h...)
		told(t, "Sum", got, e, want, wantE)
	})
}

// P7.1

func TestDownTold(t *testing.T) {
	h, want := none(1), none(0)
	h.Pos, want.Pos = l(3, 2), l(2, 2)
	checkDown(t, of(h), 0, of(want), api.OK)
	checkDown(t, of(turned(h)), 0, of(turned(want)), api.OK)

	// By 0 four of the schema 2 are one: -7 to -4, -3 to 0, 1 to 4, 5 to 8.
	h = api.Hist{Kind: api.Gauge, Schema: 2, ZeroAt: -4096, Zero: 9, Sum: -77}
	h.Pos = []api.Bucket{{Index: -8, Count: 1}, {Index: -7, Count: 2}, {Index: -4, Count: 3}, {Index: -3, Count: 4}, {Index: 0, Count: 5}, {Index: 1, Count: 6}}
	h.Neg = l(0, 1, 1, 2, 2, 3, 3, 4, 4, 5, 5, 6, 8, 7, 9, 8)
	want = api.Hist{Kind: api.Gauge, Schema: 0, ZeroAt: -4096, Zero: 9, Sum: -77}
	want.Pos = []api.Bucket{{Index: -2, Count: 1}, {Index: -1, Count: 5}, {Index: 0, Count: 9}, {Index: 1, Count: 6}}
	want.Neg = l(0, 1, 1, 14, 2, 13, 3, 8)
	checkDown(t, of(h), 0, of(want), api.OK)
}

func TestDownToItsOwn(t *testing.T) {
	for _, s := range schemas() {
		for _, at := range []int{api.NoZero, 0, 4096, 4095} {
			h := api.Hist{Kind: api.Gauge, Schema: s, ZeroAt: at, Zero: 4, Sum: math.MinInt64}
			checkDown(t, of(h), s, of(h), api.OK)
			h.Pos, h.Neg = run(most(s)/2, 5), run(most(s)-9, 10)
			checkDown(t, of(h), s, of(h), api.OK)
		}
	}
}

// The first and the last bucket of a schema lie in the first and the last one of each coarser schema.
func TestDownEnds(t *testing.T) {
	for _, s := range schemas() {
		for to := -4; to <= s; to++ {
			h, want := none(s), none(to)
			h.Pos = []api.Bucket{{Index: least(s), Count: 1}, {Index: 0, Count: 2}, {Index: 1, Count: 3}, {Index: most(s), Count: 4}}
			want.Pos = []api.Bucket{{Index: least(to), Count: 1}, {Index: 0, Count: 2}, {Index: 1, Count: 3}, {Index: most(to), Count: 4}}
			checkDown(t, of(h), to, of(want), api.OK)
			checkDown(t, of(turned(h)), to, of(turned(want)), api.OK)
		}
	}
}

// Each bucket lies whole in that in which it is then.
func TestDownHasAll(t *testing.T) {
	for _, s := range schemas() {
		for _, i := range []int{least(s), least(s) + 1, -18, -17, -16, -15, -9, -8, -7, -2, -1, 0, 1, 2, 7, 8, 9, 15, 16, 17, 18, most(s) - 1, most(s)} {
			for to := -4; to <= s; to++ {
				h := none(s)
				h.Pos = []api.Bucket{{Index: i, Count: 3}}
				got, e := Down(of(h), to)
				if e != api.OK || len(got.Pos) != 1 || got.Pos[0].Count != 3 {
					t.Fatal(s, i, to, got, e)
				}
				if k := got.Pos[0].Index; begins(to, k) > begins(s, i) || ends(to, k) < ends(s, i) {
					t.Errorf("%d of %d is in %d of %d", i, s, k, to)
				}
			}
		}
	}
}

// 512 become fewer, if they lie near each other.
func TestDownMany(t *testing.T) {
	h, want := none(8), none(7)
	h.Pos, want.Pos = run(1, 512), run(1, 256)
	// From -9, which is in -4 with -8, to 502, which is in 251 with 501.
	h.Neg, want.Neg = run(-9, 512), run(-4, 256)
	for i := range 256 {
		want.Pos[i].Count, want.Neg[i].Count = 2, 2
	}
	checkDown(t, of(h), 7, of(want), api.OK)
	checkDown(t, of(turned(h)), 7, of(turned(want)), api.OK)

	want = none(-4)
	want.Pos, want.Neg = l(1, 512), l(0, 10, 1, 502)
	checkDown(t, of(h), -4, of(want), api.OK)
}

// The place 320 lies within the bucket 2 of the schema 0, from 256 to 512, into which 6, 7 and 8 come.
func TestDownSwallows(t *testing.T) {
	h := api.Hist{Schema: 2, ZeroAt: 320, Zero: 1, Sum: 5, Pos: l(6, 2, 7, 3, 8, 4, 9, 5), Neg: l(9, 6, 12, 7, 13, 8)}
	want := api.Hist{Schema: 0, ZeroAt: 512, Zero: 10, Sum: 5, Pos: l(3, 5), Neg: l(3, 13, 4, 8)}
	checkDown(t, of(h), 0, of(want), api.OK)
	checkDown(t, of(turned(h)), 0, of(turned(want)), api.OK)

	// A bucket of either side is enough; what the other one has there is swallowed, too.
	h = api.Hist{Schema: 2, ZeroAt: 320, Pos: l(8, 4), Neg: l(7, 2, 9, 6)}
	want = api.Hist{Schema: 0, ZeroAt: 512, Zero: 6, Neg: l(3, 6)}
	checkDown(t, of(h), 0, of(want), api.OK)
	checkDown(t, of(turned(h)), 0, of(turned(want)), api.OK)

	// None lies there: nothing is swallowed.
	h = api.Hist{Schema: 2, ZeroAt: 320, Zero: 1, Pos: l(9, 5)}
	want = api.Hist{Schema: 0, ZeroAt: 320, Zero: 1, Pos: l(3, 5)}
	checkDown(t, of(h), 0, of(want), api.OK)
	checkDown(t, of(turned(h)), 0, of(turned(want)), api.OK)

	// Where the coarser bucket begins, and one above: it is swallowed whole just then.
	h = api.Hist{Schema: 2, ZeroAt: 256, Pos: l(6, 2, 8, 4)}
	want = api.Hist{Schema: 0, ZeroAt: 256, Pos: l(2, 6)}
	checkDown(t, of(h), 0, of(want), api.OK)
	h.ZeroAt = 257
	want = api.Hist{Schema: 0, ZeroAt: 512, Zero: 6}
	checkDown(t, of(h), 0, of(want), api.OK)
	checkDown(t, of(turned(h)), 0, of(turned(want)), api.OK)
}

// The first bucket begins where no place is that counts.
func TestDownAtTheFirstPlaces(t *testing.T) {
	h := api.Hist{Schema: 8, ZeroAt: 1 - end, Zero: 2, Pos: []api.Bucket{{Index: 2 - end, Count: 3}, {Index: 3 - end, Count: 4}}}
	// -2^18 + 2 is the second place that ends a bucket of the schema 8, and the first one of 7.
	want := api.Hist{Schema: 7, ZeroAt: 2 - end, Zero: 5, Pos: []api.Bucket{{Index: 2 - end/2, Count: 4}}}
	checkDown(t, of(h), 7, of(want), api.OK)
	want = api.Hist{Schema: -4, ZeroAt: 4096 - end, Zero: 9}
	checkDown(t, of(h), -4, of(want), api.OK)

	h.ZeroAt = api.NoZero
	h.Pos = append([]api.Bucket{{Index: 1 - end, Count: 1}}, h.Pos...)
	want = api.Hist{Schema: -4, ZeroAt: api.NoZero, Zero: 2, Pos: []api.Bucket{{Index: -63, Count: 8}}}
	checkDown(t, of(h), -4, of(want), api.OK)
}

func TestDownAtTheLastPlaces(t *testing.T) {
	h := api.Hist{Schema: 8, ZeroAt: end - 1, Zero: 2, Pos: l(end, 3)}
	checkDown(t, of(h), 8, of(h), api.OK)
	for to := -4; to < 8; to++ {
		checkDown(t, of(h), to, of(api.Hist{Schema: to, ZeroAt: end, Zero: 5}), api.OK)
	}
	h = api.Hist{Schema: 8, ZeroAt: end, Zero: 2}
	checkDown(t, of(h), -4, of(api.Hist{Schema: -4, ZeroAt: end, Zero: 2}), api.OK)
}

func TestDownGreatNumbers(t *testing.T) {
	h := none(1)
	h.Pos, h.Sum = l(1, 1<<63, 2, 1<<63-1), math.MaxInt64
	want := none(0)
	want.Pos, want.Sum = l(1, top), math.MaxInt64
	checkDown(t, of(h), 0, of(want), api.OK)

	h.ZeroAt, want.ZeroAt = 0, 0
	checkDown(t, of(h), 0, of(want), api.OK)
	h = api.Hist{Schema: 1, ZeroAt: 128, Zero: 1 << 63, Pos: l(2, 1<<62), Neg: l(2, 1<<62-1), Sum: math.MinInt64}
	checkDown(t, of(h), 0, of(api.Hist{ZeroAt: 256, Zero: top, Sum: math.MinInt64}), api.OK)
}

func TestDownWrong(t *testing.T) {
	for _, s := range schemas() {
		h := api.Hist{Schema: s, ZeroAt: api.NoZero, Zero: 1, Pos: l(1, 1)}
		for _, to := range []int{s + 1, -5, 9, -100, 64, math.MinInt, math.MaxInt} {
			checkDown(t, of(h), to, api.Hist{}, api.ErrSchema)
			checkDown(t, none(s), to, api.Hist{}, api.ErrSchema)
		}
	}
}

// some has on each side buckets that touch each other, and others.
func some() api.Hist {
	return of(api.Hist{Kind: api.Gauge, ZeroAt: 0, Zero: 1, Sum: -9, Pos: l(2, 3, 4, 5), Neg: l(3, 7)})
}

func TestWidenTold(t *testing.T) {
	for _, c := range []struct {
		at, to   int
		zero     uint64
		pos, neg []api.Bucket
	}{
		{0, 0, 1, l(2, 3, 4, 5), l(3, 7)},
		{1, 1, 1, l(2, 3, 4, 5), l(3, 7)},
		{255, 255, 1, l(2, 3, 4, 5), l(3, 7)},
		{256, 256, 1, l(2, 3, 4, 5), l(3, 7)},
		{257, 512, 4, l(4, 5), l(3, 7)},
		{400, 512, 4, l(4, 5), l(3, 7)},
		{511, 512, 4, l(4, 5), l(3, 7)},
		{512, 512, 4, l(4, 5), l(3, 7)},
		{513, 768, 11, l(4, 5), nil},
		{767, 768, 11, l(4, 5), nil},
		{768, 768, 11, l(4, 5), nil},
		{769, 1024, 16, nil, nil},
		{1023, 1024, 16, nil, nil},
		{1024, 1024, 16, nil, nil},
		{1025, 1025, 16, nil, nil},
		{end - 1, end - 1, 16, nil, nil},
		{end, end, 16, nil, nil},
	} {
		want := of(api.Hist{Kind: api.Gauge, ZeroAt: c.to, Zero: c.zero, Sum: -9, Pos: c.pos, Neg: c.neg})
		checkWiden(t, some(), c.at, want, api.OK)
		checkWiden(t, turned(some()), c.at, turned(want), api.OK)
	}
}

// The same of each schema, at both ends of its indices and in the midst.
func TestWidenOneBucket(t *testing.T) {
	for _, s := range schemas() {
		for _, i := range []int{least(s), least(s) + 1, -1, 0, 1, 2, most(s) - 1, most(s)} {
			h := none(s)
			h.Zero, h.Pos = 2, []api.Bucket{{Index: i, Count: 3}}
			h = of(h)
			begin, last := begins(s, i), ends(s, i)
			for _, at := range []int{begin - 1, begin, begin + 1, (begin + last) / 2, last - 1, last, last + 1, end} {
				if at <= -end || at > end {
					continue
				}
				want := h
				want.ZeroAt = at
				if at > begin {
					want.ZeroAt, want.Zero, want.Pos = max(at, last), 5, nil
				}
				checkWiden(t, h, at, want, api.OK)
				checkWiden(t, turned(h), at, turned(want), api.OK)
			}
		}
	}
}

func TestWidenAsItIs(t *testing.T) {
	for _, s := range schemas() {
		for _, at := range []int{api.NoZero, 1 - end, -1, 0, 77, end} {
			h := api.Hist{Schema: s, ZeroAt: at, Zero: 6, Sum: 8}
			checkWiden(t, of(h), at, of(h), api.OK)
			if i := most(s); begins(s, i) >= at {
				h.Pos, h.Neg = run(i, 1), run(i, 1)
			}
			checkWiden(t, of(h), at, of(h), api.OK)
		}
		h := none(s)
		h.Pos, h.Neg = run(least(s), 3), run(least(s), 4)
		checkWiden(t, of(h), api.NoZero, of(h), api.OK)
	}
}

func TestWidenMany(t *testing.T) {
	h := none(8)
	h.Pos, h.Neg = run(1, 512), run(257, 512)
	h = of(h)
	want := api.Hist{Schema: 8, ZeroAt: 300, Zero: 300 + 44, Pos: run(301, 212), Neg: run(301, 468)}
	checkWiden(t, h, 300, of(want), api.OK)
	checkWiden(t, h, end, of(api.Hist{Schema: 8, ZeroAt: end, Zero: 1024}), api.OK)
}

func TestWidenGreatNumbers(t *testing.T) {
	h := api.Hist{ZeroAt: 0, Zero: 1 << 63, Pos: l(1, 1<<62), Neg: l(1, 1<<62-1), Sum: math.MaxInt64}
	checkWiden(t, of(h), 3, of(api.Hist{ZeroAt: 256, Zero: top, Sum: math.MaxInt64}), api.OK)
	h = api.Hist{ZeroAt: 0, Zero: 0, Pos: l(1, top)}
	checkWiden(t, of(h), 256, of(api.Hist{ZeroAt: 256, Zero: top}), api.OK)
}

func TestWidenWrong(t *testing.T) {
	for _, c := range []struct{ has, at int }{
		{0, -1}, {0, -end}, {0, -end + 1}, {0, api.NoZero}, {0, math.MinInt},
		{0, end + 1}, {0, 1 << 19}, {0, math.MaxInt},
		{api.NoZero, api.NoZero - 1}, {api.NoZero, math.MinInt}, {api.NoZero, api.NoZero + 1},
		{api.NoZero, -end - 1}, {api.NoZero, -end}, {api.NoZero, end + 1}, {api.NoZero, math.MaxInt},
		{1 - end, -end}, {1 - end, api.NoZero}, {1 - end, end + 1},
		{end, end - 1}, {end, end + 1}, {end, 0}, {end, api.NoZero}, {end, math.MaxInt},
	} {
		for _, s := range schemas() {
			checkWiden(t, api.Hist{Schema: s, ZeroAt: c.has, Zero: 1, Count: 1}, c.at, api.Hist{}, api.ErrZero)
		}
	}
	checkWiden(t, some(), -1, api.Hist{}, api.ErrZero)
	checkWiden(t, some(), end+1, api.Hist{}, api.ErrZero)
}

func TestAlikeTold(t *testing.T) {
	// Of two schemas, the coarser one.
	a := api.Hist{Kind: api.Gauge, Schema: 1, ZeroAt: api.NoZero, Sum: 3, Pos: l(3, 2), Neg: l(1, 1, 2, 1)}
	b := api.Hist{Schema: 0, ZeroAt: api.NoZero, Zero: 4, Sum: -5, Pos: l(7, 1)}
	wantA := api.Hist{Kind: api.Gauge, Schema: 0, ZeroAt: api.NoZero, Sum: 3, Pos: l(2, 2), Neg: l(1, 2)}
	checkAlike(t, of(a), of(b), of(wantA), of(b), api.OK)
	checkAlike(t, of(a), of(a), of(a), of(a), api.OK)
	checkAlike(t, of(b), of(b), of(b), of(b), api.OK)

	// Of two ZeroAts, the greater one; nothing lies there.
	a = api.Hist{ZeroAt: 100, Zero: 1, Pos: l(2, 1)}
	b = api.Hist{ZeroAt: -300, Zero: 2, Pos: l(0, 3, 3, 4), Neg: l(0, 5)}
	wantB := api.Hist{ZeroAt: 100, Zero: 10, Pos: l(3, 4)}
	checkAlike(t, of(a), of(b), of(a), of(wantB), api.OK)
}

// The greater ZeroAt lies within a bucket of the other one, so that this one's is the greater one then.
func TestAlikeAgain(t *testing.T) {
	a := api.Hist{ZeroAt: 100, Zero: 1, Pos: l(2, 1)}
	wantA := api.Hist{ZeroAt: 256, Zero: 1, Pos: l(2, 1)}
	b := api.Hist{ZeroAt: api.NoZero, Zero: 2, Pos: l(1, 3, 2, 4)}
	wantB := api.Hist{ZeroAt: 256, Zero: 5, Pos: l(2, 4)}
	checkAlike(t, of(a), of(b), of(wantA), of(wantB), api.OK)
	checkAlike(t, of(turned(a)), of(b), of(turned(wantA)), of(wantB), api.OK)
	checkAlike(t, of(a), of(turned(b)), of(wantA), of(turned(wantB)), api.OK)

	// Without any other bucket.
	checkAlike(t, of(api.Hist{ZeroAt: 1}), of(api.Hist{ZeroAt: 0, Neg: l(1, 1)}),
		of(api.Hist{ZeroAt: 256}), of(api.Hist{ZeroAt: 256, Zero: 1}), api.OK)
	// At the end of it: not again.
	checkAlike(t, of(api.Hist{ZeroAt: 256}), of(api.Hist{ZeroAt: 0, Neg: l(1, 1)}),
		of(api.Hist{ZeroAt: 256}), of(api.Hist{ZeroAt: 256, Zero: 1}), api.OK)
	// At its beginning: nothing is swallowed.
	checkAlike(t, of(api.Hist{ZeroAt: 0}), of(api.Hist{ZeroAt: -1, Neg: l(1, 1)}),
		of(api.Hist{ZeroAt: 0}), of(api.Hist{ZeroAt: 0, Neg: l(1, 1)}), api.OK)
}

// Both are by the coarser schema first: so 64 comes to 256, ahead of the other one's 192.
func TestAlikeSchemaFirst(t *testing.T) {
	a := api.Hist{Schema: 2, ZeroAt: 64, Pos: l(3, 1)}
	b := api.Hist{Schema: 0, ZeroAt: 192, Zero: 4}
	checkAlike(t, of(a), of(b), of(api.Hist{ZeroAt: 256, Zero: 1}), of(api.Hist{ZeroAt: 256, Zero: 4}), api.OK)
	// The finer one's other ZeroAt, and then the coarser one's buckets.
	a = api.Hist{Schema: 1, ZeroAt: 128, Pos: l(2, 1, 6, 1)}
	b = api.Hist{Schema: 0, ZeroAt: 0, Zero: 1, Pos: l(1, 5, 2, 6), Neg: l(1, 1)}
	checkAlike(t, of(a), of(b), of(api.Hist{ZeroAt: 256, Zero: 1, Pos: l(3, 1)}), of(api.Hist{ZeroAt: 256, Zero: 7, Pos: l(2, 6)}), api.OK)
}

func TestAlikeEnds(t *testing.T) {
	a, b := none(8), none(-4)
	a.Pos = []api.Bucket{{Index: least(8), Count: 1}, {Index: most(8), Count: 2}}
	b.Neg = []api.Bucket{{Index: least(-4), Count: 1}, {Index: most(-4), Count: 2}}
	wantA := none(-4)
	wantA.Pos = b.Neg
	checkAlike(t, of(a), of(b), of(wantA), of(b), api.OK)

	all := api.Hist{Schema: 3, ZeroAt: end, Zero: 5}
	checkAlike(t, of(a), of(all), of(api.Hist{Schema: 3, ZeroAt: end, Zero: 3}), of(all), api.OK)
	first := api.Hist{Schema: -4, ZeroAt: 1 - end, Zero: 5}
	// The first bucket begins at -2^18, and ends 4096 above.
	checkAlike(t, of(b), of(first),
		of(api.Hist{Schema: -4, ZeroAt: 4096 - end, Zero: 1, Neg: l(64, 2)}), of(api.Hist{Schema: -4, ZeroAt: 4096 - end, Zero: 5}), api.OK)
	checkAlike(t, none(8), none(-4), none(-4), none(-4), api.OK)
	checkAlike(t, none(8), of(first), of(api.Hist{Schema: -4, ZeroAt: 1 - end}), of(first), api.OK)
}

// P7.2

func TestAddTold(t *testing.T) {
	a := api.Hist{ZeroAt: api.NoZero, Zero: 1, Sum: 10, Pos: l(1, 1, 3, 2), Neg: l(5, 1)}
	b := api.Hist{ZeroAt: api.NoZero, Zero: 2, Sum: -15, Pos: l(3, 4, 4, 5), Neg: l(2, 3)}
	want := api.Hist{ZeroAt: api.NoZero, Zero: 3, Sum: -5, Pos: l(1, 1, 3, 6, 4, 5), Neg: l(2, 3, 5, 1)}
	checkAdd(t, of(a), of(b), of(want), api.OK)

	// Of two schemas and two ZeroAts, so that it goes to 256.
	a = api.Hist{Schema: 1, ZeroAt: 100, Sum: 1, Pos: l(3, 2, 5, 3)}
	b = api.Hist{Schema: 0, ZeroAt: api.NoZero, Zero: 7, Sum: 1, Pos: l(2, 1), Neg: l(1, 8, 3, 9)}
	want = api.Hist{Schema: 0, ZeroAt: 256, Zero: 15, Sum: 2, Pos: l(2, 3, 3, 3), Neg: l(3, 9)}
	checkAdd(t, of(a), of(b), of(want), api.OK)
}

func TestAddKinds(t *testing.T) {
	for _, c := range [][3]int{{0, 0, 0}, {0, 1, 1}, {1, 0, 1}, {1, 1, 1}} {
		a := of(api.Hist{Kind: c[0], ZeroAt: 5, Zero: 1, Pos: l(2, 1)})
		b := of(api.Hist{Kind: c[1], ZeroAt: 5, Zero: 2, Neg: l(2, 1)})
		checkAdd(t, a, b, of(api.Hist{Kind: c[2], ZeroAt: 5, Zero: 3, Pos: l(2, 1), Neg: l(2, 1)}), api.OK)
	}
}

func TestAddNothing(t *testing.T) {
	for _, s := range schemas() {
		checkAdd(t, none(s), none(s), none(s), api.OK)
		h := none(s)
		h.Zero, h.Sum, h.Pos, h.Neg = 3, 4, run(least(s), 5), run(most(s)-4, 5)
		checkAdd(t, of(h), none(s), of(h), api.OK)
	}
}

func TestAddLimit(t *testing.T) {
	with := func(schema int, pos, neg []api.Bucket) api.Hist {
		h := none(schema)
		h.Pos, h.Neg = pos, neg
		return of(h)
	}
	twice := func(b []api.Bucket) []api.Bucket {
		for i := range b {
			b[i].Count *= 2
		}
		return b
	}
	for _, turn := range []func(api.Hist) api.Hist{copied, turned} {
		many := turn(with(3, run(1, 512), nil))
		checkAdd(t, many, many, turn(with(3, twice(run(1, 512)), nil)), api.OK)
		checkAdd(t, many, turn(with(3, nil, run(9, 512))), turn(with(3, run(1, 512), run(9, 512))), api.OK)
		checkAdd(t, many, turn(with(3, run(513, 1), nil)), api.Hist{}, api.ErrLimit)
		checkAdd(t, many, turn(with(3, run(0, 1), nil)), api.Hist{}, api.ErrLimit)
		checkAdd(t, turn(with(3, run(1, 511), nil)), turn(with(3, run(512, 1), nil)), many, api.OK)
		checkAdd(t, turn(with(3, run(1, 256), nil)), turn(with(3, run(257, 256), nil)), many, api.OK)
		checkAdd(t, turn(with(3, run(1, 256), nil)), turn(with(3, run(257, 257), nil)), api.Hist{}, api.ErrLimit)

		// They are counted when both are alike: 512 of the schema 4 are 256 of 3.
		fine := turn(with(4, run(1, 512), nil))
		checkAdd(t, fine, turn(with(3, run(257, 256), nil)), turn(with(3, append(twice(run(1, 256)), run(257, 256)...), nil)), api.OK)
		checkAdd(t, fine, turn(with(3, run(257, 257), nil)), api.Hist{}, api.ErrLimit)
		// What is swallowed isn't counted.
		wide := of(turn(api.Hist{Schema: 3, ZeroAt: 32, Pos: run(600, 1)}))
		checkAdd(t, many, wide, of(turn(api.Hist{Schema: 3, ZeroAt: 32, Zero: 1, Pos: append(run(2, 511), run(600, 1)...)})), api.OK)
		wide.ZeroAt = 0
		checkAdd(t, many, wide, api.Hist{}, api.ErrLimit)
	}
}

func TestAddOver(t *testing.T) {
	zero := func(n uint64) api.Hist { return api.Hist{Zero: n, Count: n} }
	pos := func(n uint64) api.Hist { return api.Hist{Count: n, Pos: l(1, n)} }
	neg := func(n uint64) api.Hist { return api.Hist{Count: n, Neg: l(1, n)} }
	sum := func(n int64) api.Hist { return api.Hist{Sum: n} }

	checkAdd(t, zero(top-1), zero(1), zero(top), api.OK)
	checkAdd(t, zero(top), zero(1), api.Hist{}, api.ErrOver)
	checkAdd(t, zero(top), zero(top), api.Hist{}, api.ErrOver)
	checkAdd(t, pos(1<<63), pos(1<<63-1), pos(top), api.OK)
	checkAdd(t, pos(1<<63), pos(1<<63), api.Hist{}, api.ErrOver)
	checkAdd(t, neg(top-9), neg(9), neg(top), api.OK)
	checkAdd(t, neg(top-9), neg(10), api.Hist{}, api.ErrOver)
	// Each by itself is few enough, all together are too many.
	checkAdd(t, pos(top-1), neg(1), of(api.Hist{Pos: l(1, top-1), Neg: l(1, 1)}), api.OK)
	checkAdd(t, pos(top), neg(1), api.Hist{}, api.ErrOver)
	checkAdd(t, pos(top), zero(1), api.Hist{}, api.ErrOver)
	checkAdd(t, zero(top), neg(1), api.Hist{}, api.ErrOver)
	checkAdd(t, pos(top), of(api.Hist{Pos: l(2, 1)}), api.Hist{}, api.ErrOver)

	checkAdd(t, sum(math.MaxInt64-1), sum(1), sum(math.MaxInt64), api.OK)
	checkAdd(t, sum(math.MaxInt64), sum(1), api.Hist{}, api.ErrOver)
	checkAdd(t, sum(math.MaxInt64), sum(math.MaxInt64), api.Hist{}, api.ErrOver)
	checkAdd(t, sum(math.MinInt64+1), sum(-1), sum(math.MinInt64), api.OK)
	checkAdd(t, sum(math.MinInt64), sum(-1), api.Hist{}, api.ErrOver)
	checkAdd(t, sum(math.MinInt64), sum(math.MinInt64), api.Hist{}, api.ErrOver)
	checkAdd(t, sum(math.MinInt64), sum(math.MaxInt64), sum(-1), api.OK)
}

// Too great is told ahead of too many.
func TestAddTwoWrong(t *testing.T) {
	many, more := none(3), none(3)
	many.Pos, more.Pos = run(1, 512), run(513, 1)
	checkAdd(t, of(many), of(more), api.Hist{}, api.ErrLimit)
	many.Sum, more.Sum = math.MaxInt64, 1
	checkAdd(t, of(many), of(more), api.Hist{}, api.ErrOver)
	many.Sum = math.MaxInt64 - 1
	checkAdd(t, of(many), of(more), api.Hist{}, api.ErrLimit)
	more.Zero = top - 512
	checkAdd(t, of(many), of(more), api.Hist{}, api.ErrOver)
	more.Zero = top - 513
	checkAdd(t, of(many), of(more), api.Hist{}, api.ErrLimit)
	more.Zero, more.Neg = 0, l(1, top-512)
	checkAdd(t, of(many), of(more), api.Hist{}, api.ErrOver)
}

func TestSubTold(t *testing.T) {
	a := api.Hist{Kind: api.Gauge, ZeroAt: api.NoZero, Zero: 3, Sum: -5, Pos: l(1, 1, 3, 6, 4, 5), Neg: l(2, 3, 5, 1)}
	b := api.Hist{ZeroAt: api.NoZero, Zero: 2, Sum: -15, Pos: l(3, 4, 4, 5), Neg: l(2, 2)}
	want := api.Hist{Kind: api.Gauge, ZeroAt: api.NoZero, Zero: 1, Sum: 10, Pos: l(1, 1, 3, 2), Neg: l(2, 1, 5, 1)}
	checkSub(t, of(a), of(b), of(want), api.OK)

	// The Kind is the first one's.
	for _, c := range [][2]int{{0, 0}, {0, 1}, {1, 0}, {1, 1}} {
		a.Kind, b.Kind, want.Kind = c[0], c[1], c[0]
		checkSub(t, of(a), of(b), of(want), api.OK)
	}
}

// What comes to 0 is no bucket any more.
func TestSubToNothing(t *testing.T) {
	a := api.Hist{Schema: 1, ZeroAt: -9, Zero: 3, Sum: 8, Pos: l(1, 1, 3, 6, 4, top-100), Neg: l(2, 3, 5, 1)}
	checkSub(t, of(a), of(a), api.Hist{Schema: 1, ZeroAt: -9}, api.OK)
	b := api.Hist{Schema: 1, ZeroAt: -9, Zero: 3, Pos: l(1, 1, 4, top-100), Neg: l(2, 3)}
	checkSub(t, of(a), of(b), of(api.Hist{Schema: 1, ZeroAt: -9, Sum: 8, Pos: l(3, 6), Neg: l(5, 1)}), api.OK)
	checkSub(t, of(a), api.Hist{Schema: 1, ZeroAt: -9}, of(a), api.OK)
	checkSub(t, none(4), none(4), none(4), api.OK)
	many := none(8)
	many.Pos, many.Neg = run(-77, 512), run(-99, 512)
	checkSub(t, of(many), of(many), none(8), api.OK)
}

func TestSubCount(t *testing.T) {
	a := of(api.Hist{ZeroAt: -600, Zero: 2, Pos: l(0, 1, 3, 5), Neg: l(1, 4, 2, 1)})
	for _, b := range []api.Hist{
		{ZeroAt: -600, Zero: 3},
		{ZeroAt: -600, Zero: top},
		{ZeroAt: -600, Pos: l(0, 2)},
		{ZeroAt: -600, Pos: l(3, 6)},
		{ZeroAt: -600, Pos: l(0, 1, 1, 1)},
		{ZeroAt: -600, Pos: l(2, 1)},
		{ZeroAt: -600, Pos: l(4, 1)},
		{ZeroAt: -600, Pos: l(1024, 1)},
		{ZeroAt: -600, Pos: []api.Bucket{{Index: -1, Count: 1}}},
		{ZeroAt: -600, Neg: l(1, 5)},
		{ZeroAt: -600, Neg: l(0, 1)},
		{ZeroAt: -600, Neg: l(3, 1)},
		{ZeroAt: -600, Neg: l(1, 4, 2, 2)},
		{ZeroAt: -600, Zero: 2, Pos: l(0, 1, 3, 5), Neg: l(1, 4, 2, 1, 3, 1)},
		{ZeroAt: -600, Zero: 1, Pos: l(0, 1, 3, 6), Neg: l(1, 4)},
	} {
		checkSub(t, a, of(b), api.Hist{}, api.ErrCount)
		checkSub(t, turned(a), of(turned(b)), api.Hist{}, api.ErrCount)
	}
	checkSub(t, none(0), of(api.Hist{Zero: 1}), api.Hist{}, api.ErrCount)
	checkSub(t, none(0), of(api.Hist{Pos: l(1, 1)}), api.Hist{}, api.ErrCount)
}

// Whether there are enough is asked of both made alike.
func TestSubAlike(t *testing.T) {
	// 3 and 4 of the schema 1 are 2 of 0.
	a := api.Hist{Schema: 1, ZeroAt: api.NoZero, Pos: l(3, 2, 4, 1)}
	b := api.Hist{Schema: 0, ZeroAt: api.NoZero, Pos: l(2, 3)}
	checkSub(t, of(a), of(b), none(0), api.OK)
	checkSub(t, of(b), of(a), none(0), api.OK)
	b.Pos = l(2, 2)
	checkSub(t, of(a), of(b), of(api.Hist{ZeroAt: api.NoZero, Pos: l(2, 1)}), api.OK)
	checkSub(t, of(b), of(a), api.Hist{}, api.ErrCount)

	// What the second one has there is about nothing for the first one, which has as many, or fewer.
	a = api.Hist{ZeroAt: 256, Zero: 5, Pos: l(2, 1)}
	b = api.Hist{ZeroAt: api.NoZero, Zero: 2, Pos: l(1, 1), Neg: l(0, 2)}
	checkSub(t, of(a), of(b), of(api.Hist{ZeroAt: 256, Pos: l(2, 1)}), api.OK)
	a.Zero = 4
	checkSub(t, of(a), of(b), api.Hist{}, api.ErrCount)

	// What the first one has there counts as about nothing, too.
	a = api.Hist{ZeroAt: api.NoZero, Pos: l(1, 3, 2, 1)}
	b = api.Hist{ZeroAt: 77, Zero: 2}
	checkSub(t, of(a), of(b), of(api.Hist{ZeroAt: 256, Zero: 1, Pos: l(2, 1)}), api.OK)
	b.Zero = 4
	checkSub(t, of(a), of(b), api.Hist{}, api.ErrCount)
}

func TestSubOver(t *testing.T) {
	sum := func(n int64) api.Hist { return api.Hist{Zero: 1, Count: 1, Sum: n} }
	left := func(n int64) api.Hist { return api.Hist{Sum: n} }
	checkSub(t, sum(math.MinInt64+1), sum(1), left(math.MinInt64), api.OK)
	checkSub(t, sum(math.MinInt64), sum(1), api.Hist{}, api.ErrOver)
	checkSub(t, sum(math.MaxInt64-1), sum(-1), left(math.MaxInt64), api.OK)
	checkSub(t, sum(math.MaxInt64), sum(-1), api.Hist{}, api.ErrOver)
	checkSub(t, sum(-1), sum(math.MinInt64), left(math.MaxInt64), api.OK)
	checkSub(t, sum(0), sum(math.MinInt64), api.Hist{}, api.ErrOver)
	checkSub(t, sum(math.MinInt64), sum(math.MinInt64), left(0), api.OK)
	checkSub(t, sum(math.MaxInt64), sum(math.MinInt64), api.Hist{}, api.ErrOver)
	// Too few is told ahead of too great.
	for _, b := range []api.Hist{{Zero: 2}, {Pos: l(1, 1)}, {Neg: l(1, 1)}} {
		b.Sum = math.MinInt64
		checkSub(t, sum(0), of(b), api.Hist{}, api.ErrCount)
	}
}

func TestReset(t *testing.T) {
	a := of(api.Hist{Zero: 1, Pos: l(1, 5)})
	b := of(api.Hist{Zero: 1, Pos: l(1, 6), Neg: l(1, 1)})
	if Reset(a, b) || !Reset(b, a) || Reset(a, a) || Reset(b, b) {
		t.Error("a counter that has less was reset, and no other one")
	}
	// Sums that can't be held against each other are no reset.
	a.Sum, b.Sum = 1, math.MinInt64
	if Reset(a, b) || !Reset(b, a) {
		t.Error("by its Sum a counter is reset")
	}
}

// P7.3

func TestRiseTold(t *testing.T) {
	at := func(zero uint64, sum int64, pos, neg []api.Bucket) api.Hist {
		return of(api.Hist{Schema: 2, ZeroAt: -100, Zero: zero, Sum: sum, Pos: pos, Neg: neg})
	}
	a, b := at(1, 10, l(1, 1), nil), at(2, 15, l(1, 4, 3, 1), l(2, 2))
	checkRise(t, []api.Hist{a, b}, at(1, 5, l(1, 3, 3, 1), l(2, 2)), api.OK)
	checkRise(t, []api.Hist{a, a}, at(0, 0, nil, nil), api.OK)
	checkRise(t, []api.Hist{a, a, a, a, b, b}, at(1, 5, l(1, 3, 3, 1), l(2, 2)), api.OK)
	// Reset between: all of that which has less.
	checkRise(t, []api.Hist{b, a}, a, api.OK)
	checkRise(t, []api.Hist{a, b, a}, at(2, 15, l(1, 4, 3, 1), l(2, 2)), api.OK)
	checkRise(t, []api.Hist{b, a, b}, at(2, 15, l(1, 4, 3, 1), l(2, 2)), api.OK)
	checkRise(t, []api.Hist{b, a, b, at(0, 3, l(3, 1), nil), at(0, 2, nil, l(2, 1))}, at(2, 20, l(1, 4, 3, 2), l(2, 3)), api.OK)
}

// The Sum may fall, and what comes is a counter of the first one's schema, or of a coarser one.
func TestRiseKinds(t *testing.T) {
	a := of(api.Hist{Schema: 1, ZeroAt: api.NoZero, Sum: 7, Pos: l(3, 1)})
	b := of(api.Hist{Schema: 0, ZeroAt: api.NoZero, Sum: -7, Pos: l(2, 4)})
	c := of(api.Hist{Schema: 3, ZeroAt: api.NoZero, Sum: -7, Pos: l(16, 9)})
	checkRise(t, []api.Hist{a, b}, of(api.Hist{ZeroAt: api.NoZero, Sum: -14, Pos: l(2, 3)}), api.OK)
	checkRise(t, []api.Hist{b, c}, of(api.Hist{ZeroAt: api.NoZero, Pos: l(2, 5)}), api.OK)
	checkRise(t, []api.Hist{a, c}, of(api.Hist{Schema: 1, ZeroAt: api.NoZero, Sum: -7, Pos: l(4, 9)}), api.OK)
	checkRise(t, []api.Hist{c, c}, none(3), api.OK)
	checkRise(t, []api.Hist{c, none(8), none(8)}, none(3), api.OK)
	// Reset to one that has a finer schema than the first one.
	few := of(api.Hist{Schema: 3, ZeroAt: api.NoZero, Sum: 1, Pos: l(1, 1)})
	checkRise(t, []api.Hist{a, few}, of(api.Hist{Schema: 1, ZeroAt: api.NoZero, Sum: 1, Pos: l(1, 1)}), api.OK)

	// The first one's ZeroAt plays a part only with others.
	wide := of(api.Hist{Schema: 1, ZeroAt: 300, Zero: 1})
	checkRise(t, []api.Hist{wide, a}, of(api.Hist{Schema: 1, ZeroAt: 384, Sum: 7}), api.OK)
	wide.Zero, wide.Count = 2, 2
	checkRise(t, []api.Hist{wide, a}, a, api.OK)
}

func TestRiseNoData(t *testing.T) {
	checkRise(t, nil, api.Hist{}, api.ErrNoData)
	checkRise(t, []api.Hist{}, api.Hist{}, api.ErrNoData)
	checkRise(t, []api.Hist{none(0)}, api.Hist{}, api.ErrNoData)
	// Fewer than two is told ahead of the kind.
	checkRise(t, []api.Hist{{Kind: api.Gauge}}, api.Hist{}, api.ErrNoData)
}

func TestRiseKind(t *testing.T) {
	for i := range 4 {
		h := slices.Repeat([]api.Hist{none(0)}, 4)
		h[i].Kind = api.Gauge
		checkRise(t, h, api.Hist{}, api.ErrKind)
	}
	// Wherever it stands, it is told ahead of a step that can't be.
	over := []api.Hist{{Sum: math.MinInt64}, {Sum: 1}, {Sum: 2}}
	checkRise(t, over, api.Hist{}, api.ErrOver)
	over[2].Kind = api.Gauge
	checkRise(t, over, api.Hist{}, api.ErrKind)
}

func TestRiseWrong(t *testing.T) {
	sum := func(n int64) api.Hist { return api.Hist{Sum: n} }
	// A step by itself is too great, or all of them together.
	checkRise(t, []api.Hist{sum(0), sum(math.MinInt64)}, sum(math.MinInt64), api.OK)
	checkRise(t, []api.Hist{sum(1), sum(math.MinInt64)}, api.Hist{}, api.ErrOver)
	checkRise(t, []api.Hist{sum(math.MinInt64), sum(-1)}, sum(math.MaxInt64), api.OK)
	checkRise(t, []api.Hist{sum(math.MinInt64), sum(-1), sum(0)}, api.Hist{}, api.ErrOver)
	checkRise(t, []api.Hist{sum(math.MinInt64), sum(0)}, api.Hist{}, api.ErrOver)

	few, all := of(api.Hist{Zero: 1}), of(api.Hist{Zero: top})
	checkRise(t, []api.Hist{few, all}, of(api.Hist{Zero: top - 1}), api.OK)
	checkRise(t, []api.Hist{few, all, few}, of(api.Hist{Zero: top}), api.OK)
	checkRise(t, []api.Hist{few, all, few, of(api.Hist{Zero: 2})}, api.Hist{}, api.ErrOver)
	checkRise(t, []api.Hist{all, of(api.Hist{Pos: l(1, top)}), few}, api.Hist{}, api.ErrOver)

	// Of the first step that can't be: one too many, and behind it too great.
	many, one := none(3), none(3)
	many.Pos, one.Pos = run(1, 512), run(513, 1)
	checkRise(t, []api.Hist{none(3), of(many), of(one)}, api.Hist{}, api.ErrLimit)
	great := of(one)
	great.Sum = math.MinInt64
	checkRise(t, []api.Hist{none(3), of(many), of(one), great, of(one)}, api.Hist{}, api.ErrLimit)
	checkRise(t, []api.Hist{none(3), great, of(one), of(many), of(one)}, api.Hist{}, api.ErrOver)
}

func TestSumTold(t *testing.T) {
	a := of(api.Hist{Schema: 1, ZeroAt: api.NoZero, Zero: 1, Sum: 4, Pos: l(3, 1)})
	b := of(api.Hist{Schema: 1, ZeroAt: api.NoZero, Zero: 2, Sum: -9, Pos: l(3, 1, 4, 2)})
	c := of(api.Hist{Kind: api.Gauge, Schema: 0, ZeroAt: 64, Zero: 3, Neg: l(2, 1)})
	ab := of(api.Hist{Schema: 1, ZeroAt: api.NoZero, Zero: 3, Sum: -5, Pos: l(3, 2, 4, 2)})
	abc := of(api.Hist{Kind: api.Gauge, Schema: 0, ZeroAt: 64, Zero: 6, Sum: -5, Pos: l(2, 4), Neg: l(2, 1)})
	checkSum(t, []api.Hist{a, b}, ab, api.OK)
	checkSum(t, []api.Hist{b, a}, ab, api.OK)
	for _, h := range [][]api.Hist{{a, b, c}, {a, c, b}, {b, a, c}, {b, c, a}, {c, a, b}, {c, b, a}} {
		checkSum(t, h, abc, api.OK)
	}
	for _, h := range []api.Hist{a, b, c, ab, abc, {}, none(-4)} {
		checkSum(t, []api.Hist{h}, h, api.OK)
	}
	checkSum(t, slices.Repeat([]api.Hist{a}, 5), of(api.Hist{Schema: 1, ZeroAt: api.NoZero, Zero: 5, Sum: 20, Pos: l(3, 5)}), api.OK)
}

// Of three, ZeroAt hangs on the order: one by one they are added from the first one on.
func TestSumOrder(t *testing.T) {
	a := of(api.Hist{Schema: 2, ZeroAt: 64, Pos: l(3, 1)})
	b := of(api.Hist{Schema: 2, ZeroAt: 192})
	c := of(api.Hist{Schema: 0, ZeroAt: api.NoZero})
	checkSum(t, []api.Hist{a, b, c}, of(api.Hist{Schema: 0, ZeroAt: 192, Zero: 1}), api.OK)
	checkSum(t, []api.Hist{a, c, b}, of(api.Hist{Schema: 0, ZeroAt: 256, Zero: 1}), api.OK)
}

func TestSumWrong(t *testing.T) {
	checkSum(t, nil, api.Hist{}, api.ErrNoData)
	checkSum(t, []api.Hist{}, api.Hist{}, api.ErrNoData)

	sum := func(n int64) api.Hist { return api.Hist{Sum: n} }
	checkSum(t, []api.Hist{sum(math.MaxInt64), sum(1)}, api.Hist{}, api.ErrOver)
	// One by one: what comes back later doesn't help.
	checkSum(t, []api.Hist{sum(math.MaxInt64), sum(1), sum(-1)}, api.Hist{}, api.ErrOver)
	checkSum(t, []api.Hist{sum(math.MaxInt64), sum(-1), sum(1)}, sum(math.MaxInt64), api.OK)
	checkSum(t, []api.Hist{of(api.Hist{Zero: top}), sum(1), of(api.Hist{Neg: l(1, 1)})}, api.Hist{}, api.ErrOver)

	many, one := none(3), none(3)
	many.Neg, one.Neg = run(1, 512), run(513, 1)
	checkSum(t, []api.Hist{of(many), of(many), of(one)}, api.Hist{}, api.ErrLimit)
	// Of the first that can't be: one too many, and behind it too great.
	great := of(api.Hist{Schema: 3, Zero: top})
	checkSum(t, []api.Hist{of(many), of(one), great}, api.Hist{}, api.ErrLimit)
	checkSum(t, []api.Hist{of(many), great, of(one)}, api.Hist{}, api.ErrOver)
}

// cell is where a bucket is: its side, 1 or -1, and its index; Zero is at 0, 0.
type cell struct{ side, index int }

// picture is a histogram by big numbers.
type picture struct {
	kind, schema, at int
	sum              *big.Int
	cells            map[cell]*big.Int
}

// put lays so many into a cell.
func (p picture) put(c cell, n *big.Int) {
	if p.cells[c] == nil {
		p.cells[c] = new(big.Int)
	}
	p.cells[c] = new(big.Int).Add(p.cells[c], n)
}

// draw is the picture of a histogram.
func draw(h api.Hist) picture {
	p := picture{h.Kind, h.Schema, h.ZeroAt, big.NewInt(h.Sum), map[cell]*big.Int{}}
	p.put(cell{}, new(big.Int).SetUint64(h.Zero))
	for _, b := range h.Pos {
		p.put(cell{1, b.Index}, new(big.Int).SetUint64(b.Count))
	}
	for _, b := range h.Neg {
		p.put(cell{-1, b.Index}, new(big.Int).SetUint64(b.Count))
	}
	return p
}

// down is the picture by a coarser schema, before it is swallowed to its own ZeroAt, and then.
func (p picture) down(schema int) picture {
	q := picture{p.kind, schema, p.at, p.sum, map[cell]*big.Int{}}
	for c, n := range p.cells {
		c.index = int(math.Ceil(float64(c.index) / float64(width(schema)/width(p.schema))))
		q.put(c, n)
	}
	return q.swallowed(p.at)
}

// swallowed is the picture, swallowed to a place.
func (p picture) swallowed(at int) picture {
	q := picture{p.kind, p.schema, at, p.sum, map[cell]*big.Int{}}
	for c := range p.cells {
		if c.side != 0 && begins(p.schema, c.index) < at && ends(p.schema, c.index) > at {
			q.at = ends(p.schema, c.index)
		}
	}
	for c, n := range p.cells {
		if ends(p.schema, c.index) <= q.at {
			c = cell{}
		}
		q.put(c, n)
	}
	return q
}

// alike are two pictures, made alike.
func alike(p, q picture) (picture, picture) {
	schema := min(p.schema, q.schema)
	p, q = p.down(schema), q.down(schema)
	for p.at != q.at {
		at := max(p.at, q.at)
		p, q = p.swallowed(at), q.swallowed(at)
	}
	return p, q
}

// with is the picture with so many times another one, like it.
func (p picture) with(q picture, times int64) picture {
	sum := new(big.Int).Mul(q.sum, big.NewInt(times))
	r := picture{p.kind, p.schema, p.at, sum.Add(sum, p.sum), maps.Clone(p.cells)}
	for c, n := range q.cells {
		r.put(c, new(big.Int).Mul(n, big.NewInt(times)))
	}
	// What is empty is no bucket any more, within which a place might lie.
	maps.DeleteFunc(r.cells, func(_ cell, n *big.Int) bool { return n.Sign() == 0 })
	return r
}

// less says whether a cell has fewer than none.
func (p picture) less() bool {
	for _, n := range p.cells {
		if n.Sign() < 0 {
			return true
		}
	}
	return false
}

// hist is the histogram of a picture, and what is wrong with it by its size.
func (p picture) hist() (api.Hist, api.Errno) {
	h := api.Hist{Kind: p.kind, Schema: p.schema, ZeroAt: p.at, Sum: p.sum.Int64()}
	count := new(big.Int)
	for c, n := range p.cells {
		count.Add(count, n)
		switch c.side {
		case 0:
			h.Zero = n.Uint64()
		case 1:
			h.Pos = append(h.Pos, api.Bucket{Index: c.index, Count: n.Uint64()})
		default:
			h.Neg = append(h.Neg, api.Bucket{Index: c.index, Count: n.Uint64()})
		}
	}
	if !p.sum.IsInt64() || !count.IsUint64() {
		return api.Hist{}, api.ErrOver
	}
	if len(h.Pos) > 512 || len(h.Neg) > 512 {
		return api.Hist{}, api.ErrLimit
	}
	h.Count = count.Uint64()
	for _, side := range [][]api.Bucket{h.Pos, h.Neg} {
		slices.SortFunc(side, func(a, b api.Bucket) int { return a.Index - b.Index })
	}
	return h, api.OK
}

// drawn is a histogram that may be, with buckets near a place, and a ZeroAt ahead of them.
func drawn(r *rand.Rand, schema, near int) api.Hist {
	h := api.Hist{Kind: r.IntN(2), Schema: schema, ZeroAt: api.NoZero, Zero: r.Uint64N(4), Sum: int64(r.IntN(99) - 50)}
	first := int(math.Ceil(float64(near)/float64(width(schema)))) - r.IntN(4)
	first = min(max(first, least(schema)), most(schema))
	if at := begins(schema, first) - r.IntN(width(schema)+1)*r.IntN(2); r.IntN(3) > 0 && at > -end {
		h.ZeroAt = at
	}
	for _, side := range []*[]api.Bucket{&h.Pos, &h.Neg} {
		for i := first; i < first+7 && i <= most(schema); i++ {
			if r.IntN(2) == 0 {
				*side = append(*side, api.Bucket{Index: i, Count: 1 + r.Uint64N(4)})
			}
		}
		if len(*side) > 0 && r.IntN(8) == 0 {
			(*side)[0].Count = 1 << (60 + r.IntN(4)) / 2
		}
	}
	if r.IntN(6) == 0 {
		h.Sum = []int64{math.MinInt64, math.MaxInt64, math.MinInt64 + 9}[r.IntN(3)]
	}
	return of(h)
}

// pair are two histograms near one place, of schemas not far from each other.
func pair(t *testing.T, r *rand.Rand) (api.Hist, api.Hist) {
	t.Helper()
	schema := r.IntN(13) - 4
	other := min(max(schema+r.IntN(5)-2, -4), 8)
	near := []int{-end, 0, end, r.IntN(2*end) - end}[r.IntN(4)]
	a, b := drawn(r, schema, near), drawn(r, other, near)
	for _, h := range []api.Hist{a, b} {
		if e := hist.Check(h); e != api.OK {
			t.Fatal(h, e)
		}
	}
	return a, b
}

func TestDownAndWidenDrawn(t *testing.T) {
	r := rand.New(rand.NewPCG(7, 1))
	moved := 0
	for range 20000 {
		h, _ := pair(t, r)
		to := h.Schema - r.IntN(h.Schema+5)
		want, e := draw(h).down(to).hist()
		checkDown(t, h, to, want, e)
		if want.ZeroAt != h.ZeroAt {
			moved++
		}
		at := max(h.ZeroAt, 1-end) + r.IntN(1+3*width(h.Schema))
		if at <= end {
			want, e = draw(h).swallowed(at).hist()
			checkWiden(t, h, at, want, e)
		}
	}
	if moved < 1000 {
		t.Errorf("only %d ZeroAts were moved", moved)
	}
}

func TestTwoDrawn(t *testing.T) {
	r := rand.New(rand.NewPCG(7, 2))
	seen := map[api.Errno]int{}
	again := 0
	for range 20000 {
		a, b := pair(t, r)
		p, q := alike(draw(a), draw(b))
		wantA, _ := p.hist()
		wantB, _ := q.hist()
		checkAlike(t, a, b, wantA, wantB, api.OK)
		if wantA.ZeroAt > max(a.ZeroAt, b.ZeroAt) {
			again++
		}

		both := p.with(q, 1)
		both.kind = a.Kind | b.Kind
		want, e := both.hist()
		checkAdd(t, a, b, want, e)
		seen[e]++

		off := p.with(q, -1)
		want, e = off.hist()
		if off.less() {
			want, e = api.Hist{}, api.ErrCount
		}
		checkSub(t, a, b, want, e)
		seen[e]++
	}
	for _, e := range []api.Errno{api.OK, api.ErrOver, api.ErrCount} {
		if seen[e] < 500 {
			t.Errorf("only %d were drawn for the error %d", seen[e], e)
		}
	}
	if again < 1000 {
		t.Errorf("only %d were widened beyond both", again)
	}
}

// Rise and Sum go by Add and Sub, one by one.
func TestManyDrawn(t *testing.T) {
	r := rand.New(rand.NewPCG(7, 3))
	seen := map[api.Errno]int{}
	for range 4000 {
		near := []int{-end, 0, end}[r.IntN(3)]
		h := []api.Hist{drawn(r, r.IntN(4)+2, near)}
		for range 1 + r.IntN(4) {
			next := drawn(r, r.IntN(4)+2, near)
			if more, e := Add(h[len(h)-1], next); e == api.OK && r.IntN(3) > 0 {
				next = more
			}
			h = append(h, next)
		}
		for i := range h {
			h[i].Kind = api.Counter
		}

		sum, rise := draw(h[0]), draw(none(h[0].Schema))
		e, riseE := api.OK, api.OK
		for i, now := range h[1:] {
			if e == api.OK {
				p, q := alike(sum, draw(now))
				sum = p.with(q, 1)
				_, e = sum.hist()
			}
			if riseE == api.OK {
				p, q := alike(draw(now), draw(h[i]))
				more := p.with(q, -1)
				if more.less() {
					more = draw(now)
				} else if _, riseE = more.hist(); riseE != api.OK {
					continue
				}
				p, q = alike(rise, more)
				rise = p.with(q, 1)
				_, riseE = rise.hist()
			}
		}
		want, _ := sum.hist()
		checkSum(t, h, want, e)
		if riseE != api.OK {
			checkRise(t, h, api.Hist{}, riseE)
		} else {
			want, _ = rise.hist()
			checkRise(t, h, want, api.OK)
		}
		seen[e]++
		seen[riseE]++
	}
	if seen[api.OK] < 1000 || seen[api.ErrOver] < 300 {
		t.Errorf("drawn were %v", seen)
	}
}

// P7.4

// all are how many observations there are, and their Sum.
func all(h ...api.Hist) [2]string {
	count, sum := new(big.Int), new(big.Int)
	for _, x := range h {
		for _, n := range draw(x).cells {
			count.Add(count, n)
		}
		sum.Add(sum, big.NewInt(x.Sum))
	}
	return [2]string{count.String(), sum.String()}
}

func TestNothingGetsLost(t *testing.T) {
	r := rand.New(rand.NewPCG(7, 4))
	for range 5000 {
		a, b := pair(t, r)
		for to := -4; to <= a.Schema; to++ {
			if got, e := Down(a, to); e != api.OK || all(got) != all(a) || got.Count != a.Count {
				t.Errorf("Down(%v, %d) is %v, %d", a, to, got, e)
			}
		}
		for _, at := range []int{a.ZeroAt, max(a.ZeroAt, 0), max(a.ZeroAt, r.IntN(end)), end} {
			if got, e := Widen(a, at); e != api.OK || all(got) != all(a) || got.Count != a.Count {
				t.Errorf("Widen(%v, %d) is %v, %d", a, at, got, e)
			}
		}
		x, y, e := Alike(a, b)
		if e != api.OK || all(x) != all(a) || all(y) != all(b) {
			t.Errorf("Alike(%v, %v) are %v, %v, %d", a, b, x, y, e)
		}
		if got, e := Add(a, b); e == api.OK && all(got) != all(a, b) {
			t.Errorf("Add(%v, %v) is %v", a, b, got)
		}
	}
}

func TestAddedAndTakenOff(t *testing.T) {
	r := rand.New(rand.NewPCG(7, 5))
	tried := 0
	for range 10000 {
		a, b := pair(t, r)
		both, e := Add(a, b)
		if e != api.OK {
			continue
		}
		tried++
		if other, e := Add(b, a); e != api.OK || !hist.Same(both, other) {
			t.Errorf("Add(%v, %v) is %v, and the other way round %v", a, b, both, other)
		}
		want, _, _ := Alike(a, b)
		want.Kind = both.Kind
		checkSub(t, both, b, want, api.OK)
		_, want, _ = Alike(a, b)
		want.Kind = both.Kind
		checkSub(t, both, a, want, api.OK)
	}
	if tried < 2000 {
		t.Errorf("only %d could be added", tried)
	}
}

// R3: what is handed out is new, and the room behind what is handed in isn't written.
func TestAnswersAreNew(t *testing.T) {
	room := l(1, 1, 3, 2, 7, 3, 9, 4)
	was := slices.Clone(room)
	h := of(api.Hist{Schema: 2, ZeroAt: 0, Pos: room[:2], Neg: room[:3]})
	calls := func() []api.Hist {
		var out []api.Hist
		take := func(h api.Hist, e api.Errno) {
			if e != api.OK {
				t.Fatal(e)
			}
			out = append(out, h)
		}
		take(Down(h, 2))
		take(Down(h, 0))
		take(Widen(h, 0))
		take(Widen(h, 65))
		take(Add(h, h))
		take(Sub(h, api.Hist{Schema: 2, ZeroAt: api.NoZero}))
		take(Rise(api.Hist{Schema: 2, ZeroAt: api.NoZero}, h))
		take(Sum(h))
		take(Sum(h, h))
		a, b, e := Alike(h, h)
		take(a, e)
		take(b, e)
		return out
	}
	again := calls()
	for _, got := range calls() {
		for _, side := range [][]api.Bucket{got.Pos, got.Neg} {
			side = side[:cap(side)]
			for i := range side {
				side[i] = api.Bucket{Index: -5, Count: 55}
			}
			if !slices.Equal(room, was) {
				t.Fatalf("%v is shared", got)
			}
		}
	}
	for i, got := range calls() {
		if !equal(got, again[i]) {
			t.Errorf("the answer %d is %v, then %v", i, again[i], got)
		}
	}
	// Nor do two answers of one call share any.
	a, b, _ := Alike(h, h)
	a.Pos[0].Count, a.Neg[0].Count = 77, 78
	if !equal(b, h) || a.Pos[0].Count != 77 {
		t.Errorf("%v, %v", a, b)
	}
}

// A histogram that may not be isn't melded: what is wrong with it is told.
func TestMayNotBe(t *testing.T) {
	for _, c := range []struct {
		h    api.Hist
		want api.Errno
	}{
		{api.Hist{Kind: 2}, api.ErrKind},
		{api.Hist{Count: 1}, api.ErrCount},
		{api.Hist{Count: 1, Pos: l(1025, 1)}, api.ErrRange},
		{api.Hist{Count: 2, Neg: l(3, 1, 3, 1)}, api.ErrBucket},
		{api.Hist{Count: 2, Neg: l(3, 1, 2, 1)}, api.ErrBucket},
		{api.Hist{Count: 1, Pos: l(3, 1, 4, 0)}, api.ErrCount},
		{api.Hist{Count: 0, Zero: top, Pos: l(1, 1)}, api.ErrOver},
		{api.Hist{ZeroAt: 1, Count: 1, Pos: l(1, 1)}, api.ErrZero},
	} {
		checkDown(t, c.h, 0, api.Hist{}, c.want)
		checkDown(t, c.h, -2, api.Hist{}, c.want)
		checkWiden(t, c.h, c.h.ZeroAt, api.Hist{}, c.want)
		checkWiden(t, c.h, 400, api.Hist{}, c.want)
		checkAlike(t, c.h, none(1), api.Hist{}, api.Hist{}, c.want)
		checkAdd(t, c.h, none(1), api.Hist{}, c.want)
		checkSub(t, c.h, none(1), api.Hist{}, c.want)
	}
}

// R1: whatever is handed in, each call ends, and none panics; with an error nothing else is told.
func TestWhatever(t *testing.T) {
	r := rand.New(rand.NewPCG(7, 6))
	far := []int{math.MinInt, math.MinInt + 1, -1 << 40, -end, -5, -1, 0, 1, 2, 9, end, 1 << 40, math.MaxInt - 1, math.MaxInt}
	anything := func() int { return far[r.IntN(len(far))] }
	whatever := func() api.Hist {
		h, _ := pair(t, r)
		for _, side := range []*[]api.Bucket{&h.Pos, &h.Neg} {
			for i := range *side {
				if r.IntN(4) == 0 {
					(*side)[i].Index = anything()
				}
				if r.IntN(4) == 0 {
					(*side)[i].Count = []uint64{0, top}[r.IntN(2)]
				}
			}
			if r.IntN(9) == 0 {
				*side = append(*side, make([]api.Bucket, 600)...)
			}
		}
		for _, field := range []*int{&h.Kind, &h.Schema, &h.ZeroAt} {
			if r.IntN(4) == 0 {
				*field = anything()
			}
		}
		return h
	}
	empty := func(h api.Hist, e api.Errno) {
		t.Helper()
		if e != api.OK && !equal(h, api.Hist{}) {
			t.Errorf("with the error %d: %v", e, h)
		}
	}
	for range 5000 {
		a, b, c := whatever(), whatever(), whatever()
		empty(Down(a, anything()))
		empty(Down(a, a.Schema))
		empty(Widen(a, anything()))
		empty(Widen(a, a.ZeroAt))
		x, y, e := Alike(a, b)
		empty(x, e)
		empty(y, e)
		empty(Add(a, b))
		empty(Sub(a, b))
		Reset(a, b)
		empty(Rise(a, b, c))
		empty(Sum(a, b, c))
		a.Kind, b.Kind, c.Kind = 0, 0, 0
		empty(Rise(a, b, c))
		empty(Rise(a))
		empty(Sum(a))
	}
}
