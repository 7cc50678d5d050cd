package rank

import (
	"cmp"
	"math"
	"math/big"
	"math/rand/v2"
	"pluvial/api"
	"pluvial/bound"
	"pluvial/hist"
	"slices"
	"testing"
)

// The tests hold the package against answers told one by one, and against drawn histograms on the line of real numbers: places by floats, counts by big numbers.

const top = math.MaxUint64

// end is the last place that there is.
const end = 1 << 18

// schemas are all that there are.
func schemas() []int { return []int{-4, -3, -2, -1, 0, 1, 2, 3, 4, 5, 6, 7, 8} }

// width is how many units a bucket has.
func width(schema int) int {
	return [...]int{4096, 2048, 1024, 512, 256, 128, 64, 32, 16, 8, 4, 2, 1}[schema+4]
}

// least and most are the first and the last index.
func least(schema int) int { return 1 - most(schema) }

func most(schema int) int { return end / width(schema) }

// l are buckets by pairs: an index, and how many it has.
func l(pairs ...int) []api.Bucket {
	var out []api.Bucket
	for i := 0; i < len(pairs); i += 2 {
		out = append(out, api.Bucket{Index: pairs[i], Count: uint64(pairs[i+1])})
	}
	return out
}

// of is a histogram with a Count that is right.
func of(h api.Hist) api.Hist {
	h.Count = h.Zero
	for _, b := range slices.Concat(h.Pos, h.Neg) {
		h.Count += b.Count
	}
	return h
}

// key is where a bucket is.
func key(side, schema, index int) bound.Key {
	return bound.Key{Side: side, Schema: schema, Index: index}
}

// told is a cell by its numbers.
func told(side, schema, index int, count uint64) Cell {
	return Cell{Key: key(side, schema, index), Count: count}
}

// kept asserts that a histogram that is handed in is as it was, with the room behind the ends of its lists.
func kept(t *testing.T, h api.Hist, do func()) {
	t.Helper()
	pos, neg := h.Pos[:cap(h.Pos)], h.Neg[:cap(h.Neg)]
	wasPos, wasNeg := slices.Clone(pos), slices.Clone(neg)
	do()
	if !slices.Equal(pos, wasPos) || !slices.Equal(neg, wasNeg) {
		t.Errorf("%v, %v became %v, %v", wasPos, wasNeg, pos, neg)
	}
}

func checkOrder(t *testing.T, h api.Hist, want ...Cell) {
	t.Helper()
	kept(t, h, func() {
		t.Helper()
		if got := Order(h); !slices.Equal(got, want) {
			t.Errorf("Order(%v) is %v; want %v", h, got, want)
		}
	})
}

func checkAt(t *testing.T, h api.Hist, n uint64, want bound.Key, wantE api.Errno) {
	t.Helper()
	kept(t, h, func() {
		t.Helper()
		if got, e := At(h, n); got != want || e != wantE {
			t.Errorf("At(%v, %d) is %v, %d; want %v, %d", h, n, got, e, want, wantE)
		}
	})
}

func checkQuantile(t *testing.T, h api.Hist, part, of uint64, want bound.Key, wantE api.Errno) {
	t.Helper()
	kept(t, h, func() {
		t.Helper()
		if got, e := Quantile(h, part, of); got != want || e != wantE {
			t.Errorf("Quantile(%v, %d, %d) is %v, %d; want %v, %d", h, part, of, got, e, want, wantE)
		}
	})
}

func checkBelow(t *testing.T, h api.Hist, p Place, want Part, wantE api.Errno) {
	t.Helper()
	kept(t, h, func() {
		t.Helper()
		if got, e := Below(h, p); got != want || e != wantE {
			t.Errorf("Below(%v, %v) is %v, %d; want %v, %d", h, p, got, e, want, wantE)
		}
	})
}

// checkCompare asserts how two stand to each other, in either order.
func checkCompare(t *testing.T, a, b bound.Key, want int) {
	t.Helper()
	if got := Compare(a, b); got != want {
		t.Errorf("Compare(%v, %v) is %d; want %d", a, b, got, want)
	}
	if got := Compare(b, a); got != -want {
		t.Errorf("Compare(%v, %v) is %d; want %d", b, a, got, -want)
	}
}

// three has buckets of Neg and of Pos, and Zero, by the schema 1: 2, 3 and 4, 5, and 6, 7 observations.
func three() api.Hist {
	return of(api.Hist{Kind: api.Gauge, Schema: 1, ZeroAt: -300, Zero: 5, Sum: -3, Pos: l(-1, 6, 3, 7), Neg: l(0, 3, 1, 4, 8, 2)})
}

// P8.1

func TestOrderTold(t *testing.T) {
	checkOrder(t, three(),
		told(-1, 1, 8, 2), told(-1, 1, 1, 4), told(-1, 1, 0, 3), told(0, 0, 0, 5), told(1, 1, -1, 6), told(1, 1, 3, 7))
	// Of one side alone, and of two of the three.
	for _, s := range schemas() {
		h := api.Hist{Schema: s, ZeroAt: api.NoZero}
		checkOrder(t, h)
		h.Neg = l(-2, 1, 0, 2, 5, 3)
		checkOrder(t, of(h), told(-1, s, 5, 3), told(-1, s, 0, 2), told(-1, s, -2, 1))
		h.Zero = 9
		checkOrder(t, of(h), told(-1, s, 5, 3), told(-1, s, 0, 2), told(-1, s, -2, 1), told(0, 0, 0, 9))
		h.Neg = nil
		checkOrder(t, of(h), told(0, 0, 0, 9))
		h.Pos = l(-2, 1, 0, 2, 5, 3)
		checkOrder(t, of(h), told(0, 0, 0, 9), told(1, s, -2, 1), told(1, s, 0, 2), told(1, s, 5, 3))
		h.Zero = 0
		checkOrder(t, of(h), told(1, s, -2, 1), told(1, s, 0, 2), told(1, s, 5, 3))
		h.Neg = l(3, top>>60)
		checkOrder(t, of(h), told(-1, s, 3, 15), told(1, s, -2, 1), told(1, s, 0, 2), told(1, s, 5, 3))
	}
}

func TestOrderEnds(t *testing.T) {
	for _, s := range schemas() {
		first, last := least(s), most(s)
		h := api.Hist{Schema: s, ZeroAt: api.NoZero, Zero: 3, Pos: l(first, 4, last, 5), Neg: l(first, 2, last, 1)}
		checkOrder(t, of(h), told(-1, s, last, 1), told(-1, s, first, 2), told(0, 0, 0, 3), told(1, s, first, 4), told(1, s, last, 5))
	}
}

// run are buckets that follow each other, each with one.
func run(first, long int) []api.Bucket {
	var out []api.Bucket
	for i := range long {
		out = append(out, api.Bucket{Index: first + i, Count: 1})
	}
	return out
}

func TestOrderMany(t *testing.T) {
	h := of(api.Hist{Schema: 8, ZeroAt: api.NoZero, Zero: 1, Pos: run(-100, api.MaxBuckets), Neg: run(7, api.MaxBuckets)})
	var want []Cell
	for i := range api.MaxBuckets {
		want = append(want, told(-1, 8, 7+api.MaxBuckets-1-i, 1))
	}
	want = append(want, told(0, 0, 0, 1))
	for i := range api.MaxBuckets {
		want = append(want, told(1, 8, -100+i, 1))
	}
	checkOrder(t, h, want...)
	for i, c := range want {
		checkAt(t, h, uint64(i+1), c.Key, api.OK)
	}
	checkAt(t, h, 1026, bound.Key{}, api.ErrRange)
}

// A cell's key's fields are its own.
func TestCellHasItsKey(t *testing.T) {
	c := Order(three())[0]
	if c.Side != -1 || c.Schema != 1 || c.Index != 8 || c.Count != 2 || c.Key != key(-1, 1, 8) {
		t.Error(c)
	}
}

// each are the buckets of all observations, one by one, in order.
func each(cells ...Cell) []bound.Key {
	var out []bound.Key
	for _, c := range cells {
		for range c.Count {
			out = append(out, c.Key)
		}
	}
	return out
}

func TestAtTold(t *testing.T) {
	h := three()
	all := each(told(-1, 1, 8, 2), told(-1, 1, 1, 4), told(-1, 1, 0, 3), told(0, 0, 0, 5), told(1, 1, -1, 6), told(1, 1, 3, 7))
	for i, k := range all {
		checkAt(t, h, uint64(i+1), k, api.OK)
	}
	checkAt(t, h, 0, bound.Key{}, api.ErrRange)
	checkAt(t, h, 28, bound.Key{}, api.ErrRange)
}

func TestAtOfOneKind(t *testing.T) {
	zero := of(api.Hist{Schema: -2, ZeroAt: 7, Zero: 3})
	pos := of(api.Hist{Schema: -2, ZeroAt: api.NoZero, Pos: l(-4, 1, 6, 2)})
	neg := of(api.Hist{Schema: -2, ZeroAt: api.NoZero, Neg: l(-4, 1, 6, 2)})
	for _, c := range []struct {
		h                   api.Hist
		first, second, last bound.Key
	}{
		{zero, key(0, 0, 0), key(0, 0, 0), key(0, 0, 0)},
		{pos, key(1, -2, -4), key(1, -2, 6), key(1, -2, 6)},
		{neg, key(-1, -2, 6), key(-1, -2, 6), key(-1, -2, -4)},
	} {
		checkAt(t, c.h, 0, bound.Key{}, api.ErrRange)
		checkAt(t, c.h, 1, c.first, api.OK)
		checkAt(t, c.h, 2, c.second, api.OK)
		checkAt(t, c.h, 3, c.last, api.OK)
		checkAt(t, c.h, 4, bound.Key{}, api.ErrRange)
		checkAt(t, c.h, top, bound.Key{}, api.ErrRange)
	}
}

// great has as many observations as there can be.
func great() api.Hist {
	return of(api.Hist{ZeroAt: api.NoZero, Zero: 1 << 63, Pos: []api.Bucket{{Index: 1, Count: 1 << 62}, {Index: 2, Count: 1<<62 - 6}}, Neg: l(1, 5)})
}

func TestAtGreatNumbers(t *testing.T) {
	h := great()
	if h.Count != top {
		t.Fatal(h)
	}
	for _, c := range []struct {
		n    uint64
		want bound.Key
	}{
		{1, key(-1, 0, 1)},
		{5, key(-1, 0, 1)},
		{6, key(0, 0, 0)},
		{1<<63 + 5, key(0, 0, 0)},
		{1<<63 + 6, key(1, 0, 1)},
		{1<<63 + 1<<62 + 5, key(1, 0, 1)},
		{1<<63 + 1<<62 + 6, key(1, 0, 2)},
		{top - 1, key(1, 0, 2)},
		{top, key(1, 0, 2)},
	} {
		checkAt(t, h, c.n, c.want, api.OK)
	}
	checkAt(t, h, 0, bound.Key{}, api.ErrRange)
	h.Zero--
	h.Count--
	checkAt(t, h, top-1, key(1, 0, 2), api.OK)
	checkAt(t, h, top, bound.Key{}, api.ErrRange)
}

// Without observations there is no data, whichever is asked for, of any kind, schema and ZeroAt.
func TestNoObservations(t *testing.T) {
	for _, s := range schemas() {
		for _, at := range []int{api.NoZero, 1 - end, 0, 5, end} {
			h := api.Hist{Kind: api.Gauge, Schema: s, ZeroAt: at, Sum: 7}
			for _, n := range []uint64{0, 1, 2, top} {
				checkAt(t, h, n, bound.Key{}, api.ErrNoData)
				checkQuantile(t, h, 0, max(n, 1), bound.Key{}, api.ErrNoData)
				checkQuantile(t, h, max(n, 1), max(n, 1), bound.Key{}, api.ErrNoData)
				// That nothing is divided, or by more than all, is told first.
				checkQuantile(t, h, n, 0, bound.Key{}, api.ErrArg)
				if n < top {
					checkQuantile(t, h, n+1, n, bound.Key{}, api.ErrArg)
				}
			}
			for _, p := range places() {
				checkBelow(t, h, p, Part{}, api.ErrNoData)
			}
			for _, p := range noPlaces() {
				checkBelow(t, h, p, Part{}, api.ErrArg)
			}
		}
	}
}

func TestQuantileTold(t *testing.T) {
	h := of(api.Hist{ZeroAt: api.NoZero, Pos: l(1, 2, 3, 2)})
	for _, c := range []struct {
		part, of uint64
		index    int
	}{
		{1, 2, 1}, {501, 1000, 3}, {500, 1000, 1}, {499, 1000, 1},
		{0, 1, 1}, {0, 1000, 1}, {0, top, 1}, {1, 1000, 1}, {1, top, 1},
		{1, 1, 3}, {1000, 1000, 3}, {999, 1000, 3}, {top, top, 3}, {top - 1, top, 3},
		{1, 4, 1}, {2, 4, 1}, {3, 4, 3}, {4, 4, 3},
		{1, 3, 1}, {2, 3, 3}, {top / 2, top, 1}, {top/2 + 1, top, 3}, {1 << 62, 1 << 63, 1}, {1<<62 + 1, 1 << 63, 3},
	} {
		checkQuantile(t, h, c.part, c.of, key(1, 0, c.index), api.OK)
	}
}

func TestQuantileOfAllThree(t *testing.T) {
	h := three()
	all := each(told(-1, 1, 8, 2), told(-1, 1, 1, 4), told(-1, 1, 0, 3), told(0, 0, 0, 5), told(1, 1, -1, 6), told(1, 1, 3, 7))
	for i, k := range all {
		// Just so many of 27; a little less is no lower one's, as it is rounded up; a little more is the next one's.
		checkQuantile(t, h, uint64(i+1), 27, k, api.OK)
		checkQuantile(t, h, uint64(i+1)*100-99, 2700, k, api.OK)
		checkQuantile(t, h, uint64(i+1)*100-1, 2700, k, api.OK)
		checkQuantile(t, h, uint64(i+1)*100, 2700, k, api.OK)
		if i+1 < len(all) {
			checkQuantile(t, h, uint64(i+1)*100+1, 2700, all[i+1], api.OK)
		}
	}
	checkQuantile(t, h, 0, 27, all[0], api.OK)
	checkQuantile(t, h, 1, 2, key(0, 0, 0), api.OK)
	checkQuantile(t, h, top, top, key(1, 1, 3), api.OK)
}

func TestQuantileOfOne(t *testing.T) {
	for _, c := range []struct {
		h    api.Hist
		want bound.Key
	}{
		{api.Hist{Schema: 3, ZeroAt: 12, Zero: 1}, key(0, 0, 0)},
		{api.Hist{Schema: 3, ZeroAt: api.NoZero, Zero: top}, key(0, 0, 0)},
		{api.Hist{Schema: 3, ZeroAt: 12, Pos: l(9, 1)}, key(1, 3, 9)},
		{api.Hist{Schema: 3, ZeroAt: 12, Neg: l(9, 1)}, key(-1, 3, 9)},
		{api.Hist{Schema: 3, ZeroAt: 12, Neg: []api.Bucket{{Index: 9, Count: top}}}, key(-1, 3, 9)},
	} {
		for _, part := range []uint64{0, 1, 2, top - 1, top} {
			checkQuantile(t, of(c.h), part, top, c.want, api.OK)
			checkQuantile(t, of(c.h), part, max(part, 1), c.want, api.OK)
		}
	}
}

// Part times Count has more than 64 bits.
func TestQuantileGreatNumbers(t *testing.T) {
	h := great()
	for _, c := range []struct {
		part, of uint64
		want     bound.Key
	}{
		{0, top, key(-1, 0, 1)},
		{5, top, key(-1, 0, 1)},
		{6, top, key(0, 0, 0)},
		{1<<63 + 5, top, key(0, 0, 0)},
		{1<<63 + 6, top, key(1, 0, 1)},
		{1<<63 + 1<<62 + 5, top, key(1, 0, 1)},
		{1<<63 + 1<<62 + 6, top, key(1, 0, 2)},
		{top, top, key(1, 0, 2)},
		{1, top - 1, key(-1, 0, 1)},
		{4, top - 1, key(-1, 0, 1)},
		// Five of one less than all are a little more than five of all.
		{5, top - 1, key(0, 0, 0)},
		{1, 2, key(0, 0, 0)},
		{1 << 63, 1<<64 - 2, key(0, 0, 0)},
		{3, 4, key(1, 0, 1)},
		{3 << 62, top, key(1, 0, 1)},
		{3, 1 << 63, key(0, 0, 0)},
		{2, 1 << 63, key(-1, 0, 1)},
		{1, 1, key(1, 0, 2)},
	} {
		checkQuantile(t, h, c.part, c.of, c.want, api.OK)
	}
}

func TestQuantileWrong(t *testing.T) {
	for _, h := range []api.Hist{three(), great(), of(api.Hist{ZeroAt: 4, Zero: 1})} {
		for _, part := range []uint64{0, 1, 2, 27, top} {
			checkQuantile(t, h, part, 0, bound.Key{}, api.ErrArg)
		}
		for _, all := range []uint64{1, 2, 26, 1 << 63, top - 1} {
			checkQuantile(t, h, all+1, all, bound.Key{}, api.ErrArg)
			checkQuantile(t, h, top, all, bound.Key{}, api.ErrArg)
		}
	}
}

func TestCompareTold(t *testing.T) {
	zero := bound.Key{}
	for _, s := range schemas() {
		first, last := least(s), most(s)
		for _, c := range []struct {
			a, b bound.Key
			want int
		}{
			{zero, zero, 0},
			{key(1, s, 1), key(1, s, 1), 0},
			{key(-1, s, 1), key(-1, s, 1), 0},
			{key(1, s, -1), key(1, s, -1), 0},
			// Of one side: above nothing from the least index up, below from the greatest one down.
			{key(1, s, 1), key(1, s, 2), -1},
			{key(1, s, -2), key(1, s, -1), -1},
			{key(1, s, -1), key(1, s, 1), -1},
			{key(1, s, first), key(1, s, last), -1},
			{key(-1, s, 1), key(-1, s, 2), 1},
			{key(-1, s, -2), key(-1, s, -1), 1},
			{key(-1, s, -1), key(-1, s, 1), 1},
			{key(-1, s, first), key(-1, s, last), 1},
			// Of both, wherever they are.
			{key(-1, s, 1), key(1, s, 1), -1},
			{key(-1, s, first), key(1, s, first), -1},
			{key(-1, s, first), key(1, s, last), -1},
			{key(-1, s, last), key(1, s, first), -1},
			// Zero and one.
			{key(-1, s, first), zero, -1},
			{key(-1, s, 0), zero, -1},
			{key(-1, s, last), zero, -1},
			{zero, key(1, s, first), -1},
			{zero, key(1, s, 0), -1},
			{zero, key(1, s, last), -1},
		} {
			checkCompare(t, c.a, c.b, c.want)
		}
	}
}

// Cells stand to each other as they stand in order.
func TestCompareAsInOrder(t *testing.T) {
	for _, h := range []api.Hist{three(), great()} {
		cells := Order(h)
		for i, a := range cells {
			for j, b := range cells {
				if got := Compare(a.Key, b.Key); got != cmp.Compare(i, j) {
					t.Errorf("Compare(%v, %v) is %d", a.Key, b.Key, got)
				}
			}
		}
	}
}

// P8.2

// places are some, from the lowest to the greatest one.
func places() []Place {
	return []Place{
		{-1, end}, {-1, end - 1}, {-1, 4096}, {-1, 1}, {-1, 0}, {-1, -1}, {-1, 2 - end}, {-1, 1 - end}, {0, 0},
		{1, 1 - end}, {1, 2 - end}, {1, -1}, {1, 0}, {1, 1}, {1, 4096}, {1, end - 1}, {1, end},
	}
}

// noPlaces are some that are none.
func noPlaces() []Place {
	l := []Place{
		{0, 1}, {0, -1}, {0, end}, {0, 1 - end}, {0, api.NoZero}, {0, math.MinInt}, {0, math.MaxInt},
		{2, 0}, {-2, 0}, {2, 5}, {-2, 5}, {3, 1}, {math.MinInt, 0}, {math.MaxInt, 0}, {math.MinInt, 1}, {math.MaxInt, end},
		{2, end + 1}, {-2, -end},
	}
	for _, side := range []int{-1, 1} {
		for _, units := range []int{-end, -end - 1, api.NoZero, end + 1, 2 * end, math.MinInt, math.MinInt + 1, math.MaxInt - 1, math.MaxInt} {
			l = append(l, Place{side, units})
		}
	}
	return l
}

func TestBelowWrong(t *testing.T) {
	for _, h := range []api.Hist{three(), great(), of(api.Hist{ZeroAt: 4, Zero: 1})} {
		for _, p := range noPlaces() {
			checkBelow(t, h, p, Part{}, api.ErrArg)
		}
		for _, p := range places() {
			if got, e := Below(h, p); e != api.OK || got.All != h.Count {
				t.Errorf("Below(%v, %v) is %v, %d", h, p, got, e)
			}
		}
	}
}

// By the schema 1 a bucket has 128 units: 8 of Neg is from 896 to 1024, 1 from 0 to 128, 0 from -128 to 0; -1 of Pos from -256 to -128, 3 from 256 to 384.
func TestBelowTold(t *testing.T) {
	for _, c := range []struct {
		p            Place
		below, midst uint64
	}{
		{Place{-1, end}, 0, 0},
		{Place{-1, 1025}, 0, 0},
		{Place{-1, 1024}, 0, 0},
		{Place{-1, 1023}, 0, 2},
		{Place{-1, 897}, 0, 2},
		{Place{-1, 896}, 2, 0},
		{Place{-1, 129}, 2, 0},
		{Place{-1, 128}, 2, 0},
		{Place{-1, 127}, 2, 4},
		{Place{-1, 1}, 2, 4},
		{Place{-1, 0}, 6, 0},
		{Place{-1, -1}, 6, 3},
		{Place{-1, -127}, 6, 3},
		{Place{-1, -128}, 9, 0},
		{Place{-1, -299}, 9, 0},
		{Place{-1, -300}, 9, 0},
		{Place{-1, -301}, 9, 5},
		{Place{-1, 1 - end}, 9, 5},
		{Place{0, 0}, 9, 5},
		{Place{1, 1 - end}, 9, 5},
		{Place{1, -301}, 9, 5},
		{Place{1, -300}, 14, 0},
		{Place{1, -256}, 14, 0},
		{Place{1, -255}, 14, 6},
		{Place{1, -129}, 14, 6},
		{Place{1, -128}, 20, 0},
		{Place{1, 0}, 20, 0},
		{Place{1, 256}, 20, 0},
		{Place{1, 257}, 20, 7},
		{Place{1, 383}, 20, 7},
		{Place{1, 384}, 27, 0},
		{Place{1, 385}, 27, 0},
		{Place{1, end}, 27, 0},
	} {
		checkBelow(t, three(), c.p, Part{Below: c.below, Midst: c.midst, All: 27}, api.OK)
	}
}

// One bucket of each schema, at both ends of its indices and between, at each place about its ends.
func TestBelowOneBucket(t *testing.T) {
	const n = 3
	none, midst, all := Part{0, 0, n}, Part{0, n, n}, Part{n, 0, n}
	for _, s := range schemas() {
		for _, i := range []int{least(s), least(s) + 1, -1, 0, 1, 2, most(s) - 1, most(s)} {
			pos := of(api.Hist{Schema: s, ZeroAt: api.NoZero, Pos: l(i, n)})
			neg := of(api.Hist{Schema: s, ZeroAt: api.NoZero, Neg: l(i, n)})
			low, high := (i-1)*width(s), i*width(s)
			for _, at := range []int{1 - end, low - 1, low, low + 1, (low + high) / 2, high - 1, high, high + 1, end} {
				if at <= -end || at > end {
					continue
				}
				above, below := midst, midst
				if at <= low {
					above, below = none, all
				} else if at >= high {
					above, below = all, none
				}
				checkBelow(t, pos, Place{1, at}, above, api.OK)
				checkBelow(t, neg, Place{-1, at}, below, api.OK)
				checkBelow(t, pos, Place{-1, at}, none, api.OK)
				checkBelow(t, neg, Place{1, at}, all, api.OK)
			}
			checkBelow(t, pos, Place{}, none, api.OK)
			checkBelow(t, neg, Place{}, all, api.OK)
		}
	}
}

func TestBelowZero(t *testing.T) {
	none, midst, all := Part{0, 0, 4}, Part{0, 4, 4}, Part{4, 0, 4}
	for _, s := range schemas() {
		for _, at := range []int{1 - end, 2 - end, -1, 0, 1, 700, end - 1, end} {
			h := of(api.Hist{Schema: s, ZeroAt: at, Zero: 4})
			checkBelow(t, h, Place{}, midst, api.OK)
			checkBelow(t, h, Place{-1, at}, none, api.OK)
			checkBelow(t, h, Place{1, at}, all, api.OK)
			if at < end {
				checkBelow(t, h, Place{-1, at + 1}, none, api.OK)
				checkBelow(t, h, Place{-1, end}, none, api.OK)
				checkBelow(t, h, Place{1, at + 1}, all, api.OK)
				checkBelow(t, h, Place{1, end}, all, api.OK)
			}
			if at > 1-end {
				checkBelow(t, h, Place{-1, at - 1}, midst, api.OK)
				checkBelow(t, h, Place{-1, 1 - end}, midst, api.OK)
				checkBelow(t, h, Place{1, at - 1}, midst, api.OK)
				checkBelow(t, h, Place{1, 1 - end}, midst, api.OK)
			}
		}
		// Nothing alone: it is in no place's midst.
		h := of(api.Hist{Schema: s, ZeroAt: api.NoZero, Zero: 4})
		for _, p := range places() {
			want := all
			if p.Side < 0 {
				want = none
			}
			checkBelow(t, h, p, want, api.OK)
		}
	}
}

// Buckets of both sides that begin just where ZeroAt is.
func TestBelowAboutZero(t *testing.T) {
	for _, s := range schemas() {
		at := width(s)
		h := of(api.Hist{Schema: s, ZeroAt: at, Zero: 2, Pos: l(2, 5), Neg: l(2, 1)})
		checkBelow(t, h, Place{-1, at + width(s)}, Part{0, 0, 8}, api.OK)
		checkBelow(t, h, Place{-1, at}, Part{1, 0, 8}, api.OK)
		checkBelow(t, h, Place{-1, at - 1}, Part{1, 2, 8}, api.OK)
		checkBelow(t, h, Place{}, Part{1, 2, 8}, api.OK)
		checkBelow(t, h, Place{1, at - 1}, Part{1, 2, 8}, api.OK)
		checkBelow(t, h, Place{1, at}, Part{3, 0, 8}, api.OK)
		checkBelow(t, h, Place{1, at + width(s)}, Part{8, 0, 8}, api.OK)

		// Without a ZeroAt nothing lies between, but nothing itself.
		h.ZeroAt = api.NoZero
		checkBelow(t, h, Place{-1, at}, Part{1, 0, 8}, api.OK)
		checkBelow(t, h, Place{-1, 1 - end}, Part{1, 0, 8}, api.OK)
		checkBelow(t, h, Place{}, Part{3, 0, 8}, api.OK)
		checkBelow(t, h, Place{1, 1 - end}, Part{3, 0, 8}, api.OK)
		checkBelow(t, h, Place{1, at}, Part{3, 0, 8}, api.OK)
	}
}

// The first buckets begin where there is no place any more, above nothing and below.
func TestBelowTheFirstPlaces(t *testing.T) {
	for _, s := range schemas() {
		i := least(s)
		h := of(api.Hist{Schema: s, ZeroAt: api.NoZero, Zero: 2, Pos: l(i, 5), Neg: l(i, 1)})
		last := i * width(s)
		checkBelow(t, h, Place{-1, last}, Part{0, 0, 8}, api.OK)
		checkBelow(t, h, Place{}, Part{3, 0, 8}, api.OK)
		checkBelow(t, h, Place{1, last}, Part{8, 0, 8}, api.OK)
		if width(s) > 1 {
			checkBelow(t, h, Place{-1, 1 - end}, Part{0, 1, 8}, api.OK)
			checkBelow(t, h, Place{1, 1 - end}, Part{3, 5, 8}, api.OK)
		}
	}
}

func TestBelowGreatNumbers(t *testing.T) {
	h := great()
	checkBelow(t, h, Place{-1, 256}, Part{0, 0, top}, api.OK)
	checkBelow(t, h, Place{-1, 0}, Part{5, 0, top}, api.OK)
	checkBelow(t, h, Place{}, Part{1<<63 + 5, 0, top}, api.OK)
	checkBelow(t, h, Place{1, 255}, Part{1<<63 + 5, 1 << 62, top}, api.OK)
	checkBelow(t, h, Place{1, 256}, Part{1<<63 + 1<<62 + 5, 0, top}, api.OK)
	checkBelow(t, h, Place{1, 257}, Part{1<<63 + 1<<62 + 5, 1<<62 - 6, top}, api.OK)
	checkBelow(t, h, Place{1, 512}, Part{top, 0, top}, api.OK)
	h.ZeroAt = 0
	checkBelow(t, h, Place{}, Part{5, 1 << 63, top}, api.OK)
	h = of(api.Hist{ZeroAt: 0, Zero: top})
	checkBelow(t, h, Place{}, Part{0, top, top}, api.OK)
	checkBelow(t, h, Place{1, 0}, Part{top, 0, top}, api.OK)
}

// Against the line of real numbers

// line is where a place of so many half units lies: by fourth roots, as the farthest places are beyond floats.
func line(side, halves int) float64 { return float64(side) * math.Exp2(float64(halves)/2048) }

// spot is a bucket on the line of real numbers: the least and the greatest of it that lie half a unit from its ends.
type spot struct {
	Cell
	least, most float64
}

// spots are a histogram's buckets, as they lie on the line. (Half a unit beyond a ZeroAt of the first place is still above nothing.)
func spots(h api.Hist) []spot {
	var out []spot
	for k, n := range hist.Cells(h) {
		s := spot{Cell: Cell{Key: k, Count: n}}
		switch {
		case k.Side != 0:
			w := width(h.Schema)
			a, b := line(k.Side, 2*(k.Index-1)*w+1), line(k.Side, 2*k.Index*w-1)
			s.least, s.most = min(a, b), max(a, b)
		case h.ZeroAt != api.NoZero:
			s.least, s.most = line(-1, 2*h.ZeroAt-1), line(1, 2*h.ZeroAt-1)
		}
		out = append(out, s)
	}
	slices.SortFunc(out, func(a, b spot) int { return cmp.Compare(a.least, b.least) })
	return out
}

// part is how much lies at or below a place, by the line.
func part(h api.Hist, p Place) Part {
	at := 0.0
	if p.Side != 0 {
		at = line(p.Side, 2*p.Units)
	}
	out := Part{All: h.Count}
	for _, s := range spots(h) {
		if s.most <= at {
			out.Below += s.Count
		} else if s.least <= at {
			out.Midst += s.Count
		}
	}
	return out
}

// rank is the bucket by which there are no fewer than part of all, of so many, and at least one.
func rank(h api.Hist, part, of uint64) bound.Key {
	want := new(big.Int).Mul(new(big.Int).SetUint64(part), new(big.Int).SetUint64(h.Count))
	sum := new(big.Int)
	for _, s := range spots(h) {
		sum.Add(sum, new(big.Int).SetUint64(s.Count))
		if new(big.Int).Mul(sum, new(big.Int).SetUint64(of)).Cmp(want) >= 0 {
			return s.Key
		}
	}
	panic("a part is more than all")
}

// drawn is a histogram that may be, with some observations.
func drawn(t *testing.T, r *rand.Rand) api.Hist {
	t.Helper()
	schema := r.IntN(13) - 4
	w := width(schema)
	near := []int{-end, -w, 0, w, end - 5*w, r.IntN(2*end) - end}[r.IntN(6)]
	first := min(max(near/w-r.IntN(3), least(schema)), most(schema))
	h := api.Hist{Kind: r.IntN(2), Schema: schema, ZeroAt: api.NoZero, Sum: int64(r.IntN(99) - 50), Zero: r.Uint64N(3)}
	if at := (first-1)*w - r.IntN(w+1)*r.IntN(2); r.IntN(3) > 0 && at > -end {
		h.ZeroAt = at
	}
	for _, side := range []*[]api.Bucket{&h.Pos, &h.Neg} {
		for i := first; i < first+6 && i <= most(schema); i++ {
			if r.IntN(2) == 0 {
				*side = append(*side, api.Bucket{Index: i, Count: 1 + r.Uint64N(5)<<(r.IntN(2)*r.IntN(59))})
			}
		}
	}
	if h = of(h); h.Count == 0 {
		h.Zero, h.Count = 1, 1
	}
	if e := hist.Check(h); e != api.OK {
		t.Fatal(h, e)
	}
	return h
}

// about are places near a histogram's own, and the farthest ones.
func about(r *rand.Rand, h api.Hist) []Place {
	out := places()
	w := width(h.Schema)
	marks := []int{h.ZeroAt}
	for _, b := range slices.Concat(h.Pos, h.Neg) {
		marks = append(marks, b.Index*w, (b.Index-1)*w, b.Index*w-r.IntN(w+1))
	}
	for _, m := range marks {
		for _, units := range []int{m - 1, m, m + 1} {
			if -end < units && units <= end {
				out = append(out, Place{1, units}, Place{-1, units})
			}
		}
	}
	return out
}

func TestDrawn(t *testing.T) {
	r := rand.New(rand.NewPCG(8, 1))
	midst := 0
	for range 1500 {
		h := drawn(t, r)
		var want []Cell
		for _, s := range spots(h) {
			want = append(want, s.Cell)
		}
		checkOrder(t, h, want...)
		for _, p := range about(r, h) {
			got := part(h, p)
			checkBelow(t, h, p, got, api.OK)
			if got.Midst > 0 {
				midst++
			}
		}
		for range 20 {
			all := 1 + r.Uint64N([]uint64{1, 9, h.Count, top}[r.IntN(4)])
			part := r.Uint64N(all)
			checkQuantile(t, h, part, all, rank(h, part, all), api.OK)
			checkQuantile(t, h, part+1, all, rank(h, part+1, all), api.OK)
			n := 1 + r.Uint64N(h.Count)
			checkAt(t, h, n, rank(h, n, h.Count), api.OK)
		}
		for i, a := range want {
			for j, b := range want {
				checkCompare(t, a.Key, b.Key, cmp.Compare(i, j))
			}
		}
		// About each bucket's last observation.
		var sum uint64
		for _, c := range want {
			checkAt(t, h, sum+1, c.Key, api.OK)
			sum += c.Count
			checkAt(t, h, sum, c.Key, api.OK)
			checkQuantile(t, h, sum, h.Count, c.Key, api.OK)
		}
		checkAt(t, h, sum+1, bound.Key{}, api.ErrRange)
	}
	if midst < 5000 {
		t.Errorf("only %d places were in a bucket's midst", midst)
	}
}

// P8.3

func TestGreaterPartsLieNoLower(t *testing.T) {
	r := rand.New(rand.NewPCG(8, 2))
	for range 4000 {
		h := drawn(t, r)
		all := 1 + r.Uint64N([]uint64{9, h.Count, top}[r.IntN(3)])
		parts := []uint64{0, 1, all - 1, all}
		for range 20 {
			parts = append(parts, r.Uint64N(all))
		}
		slices.Sort(parts)
		was, e := Quantile(h, 0, all)
		for _, part := range parts {
			now, nowE := Quantile(h, part, all)
			if e != api.OK || nowE != api.OK || Compare(was, now) > 0 {
				t.Fatalf("of %v %d of %d is %v, behind %v", h, part, all, now, was)
			}
			was = now
		}
		cells := Order(h)
		if was != cells[len(cells)-1].Key {
			t.Errorf("of %v the whole is %v", h, was)
		}
		if first, _ := Quantile(h, 0, all); first != cells[0].Key {
			t.Errorf("of %v nothing is %v", h, first)
		}
	}
}

func TestBelowAHigherPlaceIsNoLess(t *testing.T) {
	r := rand.New(rand.NewPCG(8, 3))
	for range 4000 {
		h := drawn(t, r)
		l := about(r, h)
		slices.SortFunc(l, func(a, b Place) int { return cmp.Or(cmp.Compare(a.Side, b.Side), a.Side*cmp.Compare(a.Units, b.Units)) })
		var was Part
		for _, p := range l {
			now, e := Below(h, p)
			if e != api.OK || now.Below < was.Below || now.Below+now.Midst < was.Below+was.Midst || now.All != h.Count {
				t.Fatalf("Below(%v, %v) is %v, %d, behind %v", h, p, now, e, was)
			}
			was = now
		}
	}
}

// What lies at or below a bucket's high end are just those up to its last one.
func TestBelowTheEndOfARank(t *testing.T) {
	r := rand.New(rand.NewPCG(8, 4))
	for range 4000 {
		h := drawn(t, r)
		n := 1 + r.Uint64N(h.Count)
		k, _ := At(h, n)
		p := Place{Side: k.Side, Units: k.Index * width(h.Schema)}
		switch {
		case k.Side < 0:
			p.Units = (k.Index - 1) * width(h.Schema)
		case k.Side == 0 && h.ZeroAt != api.NoZero:
			p = Place{1, h.ZeroAt}
		case k.Side == 0:
			p = Place{}
		}
		if p.Units == -end {
			continue
		}
		got, e := Below(h, p)
		if e != api.OK || got.Below < n || got.Midst != 0 {
			t.Fatalf("Below(%v, %v) is %v, %d; the %d. lies there", h, p, got, e, n)
		}
		if last, _ := At(h, got.Below); last != k {
			t.Fatalf("the %d. of %v is in %v, not in %v", got.Below, h, last, k)
		}
	}
}

// The rules

// R3: what is handed out is new, and neither kept nor lasting beyond what was handed in.
func TestAnswersAreNew(t *testing.T) {
	h := three()
	got := Order(h)
	for i := range got[:cap(got)] {
		got[:cap(got)][i] = told(7, 7, 7, 7)
	}
	checkOrder(t, h, Order(three())...)
	h.Pos[0].Count, h.Neg[0].Count, h.Count = 60, 30, h.Count+81
	checkOrder(t, h, told(-1, 1, 8, 2), told(-1, 1, 1, 4), told(-1, 1, 0, 30), told(0, 0, 0, 5), told(1, 1, -1, 60), told(1, 1, 3, 7))
	checkAt(t, h, 37, key(0, 0, 0), api.OK)

	room := l(1, 2, 3, 4, 5, 6)
	h = of(api.Hist{ZeroAt: api.NoZero, Pos: room[:1], Neg: room[:2]})
	checkOrder(t, h, told(-1, 0, 3, 4), told(-1, 0, 1, 2), told(1, 0, 1, 2))
	checkAt(t, h, 8, key(1, 0, 1), api.OK)
	checkQuantile(t, h, 1, 2, key(-1, 0, 3), api.OK)
	checkBelow(t, h, Place{}, Part{6, 0, 8}, api.OK)
}

// R4: nil and empty lists are one.
func TestEmptyLists(t *testing.T) {
	h := api.Hist{ZeroAt: 3, Zero: 2, Count: 2, Pos: []api.Bucket{}, Neg: []api.Bucket{}}
	checkOrder(t, h, told(0, 0, 0, 2))
	checkAt(t, h, 2, key(0, 0, 0), api.OK)
	checkBelow(t, h, Place{1, 3}, Part{2, 0, 2}, api.OK)
	h.Zero, h.Count = 0, 0
	checkOrder(t, h)
	checkAt(t, h, 1, bound.Key{}, api.ErrNoData)
}

// R1: whatever is handed in, each call ends, and none panics; with an error nothing else is told.
func TestWhatever(t *testing.T) {
	r := rand.New(rand.NewPCG(8, 5))
	far := []int{math.MinInt, math.MinInt + 1, -1 << 40, -1 << 19, -end, -5, -1, 0, 1, 2, 9, end, 1 << 40, math.MaxInt - 1, math.MaxInt}
	anything := func() int { return far[r.IntN(len(far))] }
	counts := func() uint64 { return []uint64{0, 1, 5, 1 << 63, top}[r.IntN(5)] }
	for range 20000 {
		h := drawn(t, r)
		for _, side := range []*[]api.Bucket{&h.Pos, &h.Neg} {
			for i := range *side {
				if r.IntN(3) == 0 {
					(*side)[i] = api.Bucket{Index: anything(), Count: counts()}
				}
			}
		}
		for _, field := range []*int{&h.Kind, &h.Schema, &h.ZeroAt} {
			if r.IntN(3) == 0 {
				*field = anything()
			}
		}
		for _, field := range []*uint64{&h.Zero, &h.Count} {
			if r.IntN(3) == 0 {
				*field = counts()
			}
		}
		for _, c := range Order(h) {
			if c.Count == 0 {
				t.Errorf("%v has an empty one", Order(h))
			}
		}
		k, e := At(h, counts())
		if e != api.OK && k != (bound.Key{}) {
			t.Error(k, e)
		}
		k, e = Quantile(h, counts(), counts())
		if e != api.OK && k != (bound.Key{}) {
			t.Error(k, e)
		}
		part, e := Below(h, Place{anything(), anything()})
		if e != api.OK && part != (Part{}) {
			t.Error(part, e)
		}
		Below(h, places()[r.IntN(len(places()))])
		Compare(key(anything(), anything(), anything()), key(anything(), anything(), anything()))
	}
}
