package bound

import (
	"math"
	"math/big"
	"pluvial/api"
	"testing"
)

// The tests hold the package against fractions: a bucket i of a schema s has the exponents from above (i - 1) / 2^s up to i / 2^s.

// far is how far from 0 places and indices are promised.
const far = 1 << 40

// none are numbers that are no schema.
var none = []int{-5, -6, -100, 9, 10, 64, 100, math.MinInt, math.MinInt + 1, math.MaxInt - 1, math.MaxInt}

// schemas are all that there are.
func schemas() []int { return []int{-4, -3, -2, -1, 0, 1, 2, 3, 4, 5, 6, 7, 8} }

// exponent is n / 2^schema.
func exponent(schema, n int) *big.Rat {
	x := big.NewRat(int64(n), 1)
	by := new(big.Rat).SetInt64(int64(1) << max(schema, -schema))
	if schema >= 0 {
		return x.Quo(x, by)
	}
	return x.Mul(x, by)
}

// place is the exponent of so many units.
func place(units int) *big.Rat { return big.NewRat(int64(units), 256) }

// most is the greatest index, told one by one from the schema -4 on.
func most(schema int) int {
	return [...]int{64, 128, 256, 512, 1024, 2048, 4096, 8192, 16384, 32768, 65536, 131072, 262144}[schema+4]
}

// inside says whether a schema has an index, by where its bucket ends.
func inside(schema, index int) bool {
	end := exponent(schema, index)
	return end.Cmp(big.NewRat(-1024, 1)) > 0 && end.Cmp(big.NewRat(1024, 1)) <= 0
}

// indices are some that a schema has, around its ends, around 0, and between.
func indices(schema int) []int {
	greatest := most(schema)
	var l []int
	for i := max(-200, 1-greatest); i <= min(200, greatest); i++ {
		l = append(l, i)
	}
	for i := range 20 {
		l = append(l, greatest-i, 1-greatest+i)
	}
	for i := 1 - greatest; i <= greatest; i += max(1, greatest/97) {
		l = append(l, i)
	}
	return l
}

// outside are some that a schema hasn't.
func outside(schema int) []int {
	greatest := most(schema)
	return []int{
		-greatest, -greatest - 1, -2 * greatest, greatest + 1, greatest + 2, 2*greatest + 1,
		-far, far, math.MinInt, math.MinInt + 1, math.MaxInt - 1, math.MaxInt,
	}
}

// P4.1

func TestRight(t *testing.T) {
	for s := -300; s <= 300; s++ {
		if Right(s) != (s >= -4 && s <= 8) {
			t.Errorf("Right(%d) is %t", s, Right(s))
		}
	}
	for _, s := range none {
		if Right(s) {
			t.Errorf("%d is no schema", s)
		}
	}
}

func TestUnitsTold(t *testing.T) {
	for _, c := range []struct{ schema, index, end, begin int }{
		{0, 1, 256, 0},
		{0, 0, 0, -256},
		{0, -1, -256, -512},
		{0, 1024, 1 << 18, 1<<18 - 256},
		{8, 1, 1, 0},
		{8, 0, 0, -1},
		{8, -7, -7, -8},
		{8, 1 << 18, 1 << 18, 1<<18 - 1},
		{-4, 1, 4096, 0},
		{-4, -3, -12288, -16384},
		{-4, 64, 1 << 18, 1<<18 - 4096},
		{1, 3, 384, 256},
		{3, -5, -160, -192},
		{7, 5, 10, 8},
		{8, far, far, far - 1},
		{8, -far, -far, -far - 1},
		{-4, far, far << 12, (far - 1) << 12},
		{-4, -far, -far << 12, (-far - 1) << 12},
		{0, far, far << 8, far<<8 - 256},
		{-5, 3, 0, 0},
		{9, 3, 0, 0},
	} {
		if got := Units(c.schema, c.index); got != c.end {
			t.Errorf("Units(%d, %d) = %d; want %d", c.schema, c.index, got, c.end)
		}
		if got := Low(c.schema, c.index); got != c.begin {
			t.Errorf("Low(%d, %d) = %d; want %d", c.schema, c.index, got, c.begin)
		}
	}
}

func TestUnits(t *testing.T) {
	for _, s := range schemas() {
		l := indices(s)
		for bits := range 41 {
			l = append(l, 1<<bits, 1<<bits-1, -1<<bits, 1-1<<bits)
		}
		for _, i := range l {
			if place(Units(s, i)).Cmp(exponent(s, i)) != 0 {
				t.Errorf("Units(%d, %d) = %d", s, i, Units(s, i))
			}
			if place(Low(s, i)).Cmp(exponent(s, i-1)) != 0 {
				t.Errorf("Low(%d, %d) = %d", s, i, Low(s, i))
			}
		}
	}
}

// Farther out nothing is promised, but that they end.
func TestUnitsBeyond(t *testing.T) {
	for _, s := range schemas() {
		for _, i := range []int{far + 1, -far - 1, math.MinInt, math.MaxInt} {
			Units(s, i)
			Low(s, i)
		}
	}
}

func TestUnitsOfNone(t *testing.T) {
	for _, s := range none {
		for _, i := range append(indices(0), outside(0)...) {
			if Units(s, i) != 0 || Low(s, i) != 0 {
				t.Errorf("of %d, %d: %d, %d", s, i, Units(s, i), Low(s, i))
			}
		}
	}
}

func TestEnds(t *testing.T) {
	for _, s := range schemas() {
		if Most(s) != most(s) || Least(s) != 1-most(s) {
			t.Errorf("of %d from %d to %d; want %d to %d", s, Least(s), Most(s), 1-most(s), most(s))
		}
		if !inside(s, Least(s)) || inside(s, Least(s)-1) || !inside(s, Most(s)) || inside(s, Most(s)+1) {
			t.Errorf("of %d from %d to %d are not all", s, Least(s), Most(s))
		}
	}
	for _, s := range none {
		if Least(s) != 1 || Most(s) != 0 {
			t.Errorf("of %d, that is none: from %d to %d", s, Least(s), Most(s))
		}
	}
}

func TestIn(t *testing.T) {
	for _, s := range schemas() {
		for _, i := range indices(s) {
			if !In(s, i) || !inside(s, i) {
				t.Errorf("In(%d, %d) is %t", s, i, In(s, i))
			}
		}
		for _, i := range outside(s) {
			if In(s, i) {
				t.Errorf("In(%d, %d) is true", s, i)
			}
		}
	}
	for _, s := range none {
		for _, i := range append(indices(0), outside(0)...) {
			if In(s, i) {
				t.Errorf("In(%d, %d) is true", s, i)
			}
		}
	}
}

// P4.2

// lies says whether the bucket i of the schema s lies in the bucket k of r, by where they begin and end.
func lies(s, i, r, k int) bool {
	return exponent(s, i-1).Cmp(exponent(r, k-1)) >= 0 && exponent(s, i).Cmp(exponent(r, k)) <= 0
}

func TestToTold(t *testing.T) {
	for _, c := range []struct{ from, to, index, want int }{
		{1, 0, 3, 2},
		{1, 0, -3, -1},
		{1, 0, 2, 1},
		{1, 0, 1, 1},
		{1, 0, 0, 0},
		{1, 0, -1, 0},
		{1, 0, -2, -1},
		{8, -4, 1, 1},
		{8, -4, 0, 0},
		{8, -4, -4095, 0},
		{8, -4, -4096, -1},
		{8, -4, 4096, 1},
		{8, -4, 4097, 2},
		{8, -4, 1 << 18, 64},
		{8, -4, 1 - 1<<18, -63},
		{3, 1, 9, 3},
		{3, 1, -9, -2},
		{-3, -4, 128, 64},
		{-3, -4, -127, -63},
		{5, 5, -17, -17},
	} {
		if got, e := To(c.from, c.to, c.index); got != c.want || e != api.OK {
			t.Errorf("To(%d, %d, %d) = %d, %d; want %d", c.from, c.to, c.index, got, e, c.want)
		}
	}
}

func TestTo(t *testing.T) {
	for _, from := range schemas() {
		for to := -4; to <= from; to++ {
			for _, i := range indices(from) {
				k, e := To(from, to, i)
				if e != api.OK || !lies(from, i, to, k) || !inside(to, k) {
					t.Errorf("To(%d, %d, %d) = %d, %d", from, to, i, k, e)
				}
				if from == to && k != i {
					t.Errorf("To(%d, %d, %d) = %d", from, to, i, k)
				}
			}
		}
	}
}

func checkToWrong(t *testing.T, from, to, index int, want api.Errno) {
	t.Helper()
	if got, e := To(from, to, index); got != 0 || e != want {
		t.Errorf("To(%d, %d, %d) = %d, %d; want 0, %d", from, to, index, got, e, want)
	}
}

func TestToWrong(t *testing.T) {
	for _, s := range schemas() {
		for _, i := range append([]int{0, 1, 3}, outside(s)...) {
			// Of a schema that is wrong ErrSchema is told, whatever the index.
			for _, n := range none {
				checkToWrong(t, s, n, i, api.ErrSchema)
				checkToWrong(t, n, s, i, api.ErrSchema)
				checkToWrong(t, n, n, i, api.ErrSchema)
			}
			for to := s + 1; to <= 8; to++ {
				checkToWrong(t, s, to, i, api.ErrSchema)
			}
		}
		for to := -4; to <= s; to++ {
			for _, i := range outside(s) {
				checkToWrong(t, s, to, i, api.ErrRange)
			}
		}
	}
	// An index that only the other schema has.
	checkToWrong(t, 0, 0, 1025, api.ErrRange)
	checkToWrong(t, 0, -1, -1024, api.ErrRange)
	checkToWrong(t, 1, 0, 2049, api.ErrRange)
}

func checkOf(t *testing.T, schema, units, want int, ok bool) {
	t.Helper()
	if got, has := Of(schema, units); got != want || has != ok {
		t.Errorf("Of(%d, %d) = %d, %t; want %d, %t", schema, units, got, has, want, ok)
	}
}

func TestOfTold(t *testing.T) {
	checkOf(t, 0, 256, 1, true)
	checkOf(t, 0, 257, 2, true)
	checkOf(t, 0, 255, 1, true)
	checkOf(t, 0, 1, 1, true)
	checkOf(t, 0, 0, 0, true)
	checkOf(t, 0, -1, 0, true)
	checkOf(t, 0, -255, 0, true)
	checkOf(t, 0, -256, -1, true)
	checkOf(t, 0, -257, -1, true)
	checkOf(t, 8, -7, -7, true)
	checkOf(t, 8, 7, 7, true)
	checkOf(t, -4, 1, 1, true)
	checkOf(t, -4, 4096, 1, true)
	checkOf(t, -4, 4097, 2, true)
	checkOf(t, -4, -4095, 0, true)
	checkOf(t, -4, -4096, -1, true)
}

func TestOf(t *testing.T) {
	for _, s := range schemas() {
		for _, i := range indices(s) {
			end, begin := Units(s, i), Units(s, i-1)
			checkOf(t, s, end, i, true)
			// Just above where it begins: of schema 8 that is its end.
			checkOf(t, s, begin+1, i, true)
			checkOf(t, s, (begin+end+1)/2, i, true)
			if i < most(s) {
				checkOf(t, s, end+1, i+1, true)
			}
			if i > 1-most(s) {
				checkOf(t, s, begin, i-1, true)
			}
		}
		checkOf(t, s, 1<<18, most(s), true)
		checkOf(t, s, 1-1<<18, 1-most(s), true)
		for _, u := range []int{-1 << 18, -1<<18 - 1, -1 << 19, 1<<18 + 1, 1 << 19, -far, far, math.MinInt, math.MinInt + 1, math.MaxInt} {
			checkOf(t, s, u, 0, false)
		}
	}
	for _, s := range none {
		for _, u := range []int{0, 1, -1, 256, 1 << 18, -1 << 18, 1<<18 + 1, far, -far, math.MinInt, math.MaxInt} {
			checkOf(t, s, u, 0, false)
		}
	}
}

func checkWhole(t *testing.T, schema, units int, want bool) {
	t.Helper()
	if got := Whole(schema, units); got != want {
		t.Errorf("Whole(%d, %d) is %t", schema, units, got)
	}
}

func TestWhole(t *testing.T) {
	for _, s := range schemas() {
		for _, i := range append(indices(s), -most(s), far, -far) {
			end := Units(s, i)
			checkWhole(t, s, end, true)
			checkWhole(t, s, end+1, s == 8)
			checkWhole(t, s, end-1, s == 8)
		}
		for u := -9000; u <= 9000; u++ {
			checkWhole(t, s, u, exponent(s, 0).Mul(place(u), exponent(-s, 1)).IsInt())
		}
		checkWhole(t, s, 1<<18, true)
		checkWhole(t, s, -1<<18, true)
		checkWhole(t, s, far, true)
		checkWhole(t, s, -far, true)
		checkWhole(t, s, far+1, s == 8)
		checkWhole(t, s, -far+2, s >= 7)
	}
	// Half of a bucket of one schema is where one of the next finer ends.
	checkWhole(t, 0, 128, false)
	checkWhole(t, 1, 128, true)
	checkWhole(t, -4, -2048, false)
	checkWhole(t, -3, -2048, true)
	for _, s := range none {
		for _, u := range []int{0, 1, 256, 4096, -4096, 1 << 18, far, math.MinInt, math.MaxInt} {
			checkWhole(t, s, u, false)
		}
	}
}

func TestHas(t *testing.T) {
	for _, r := range schemas() {
		for _, s := range schemas() {
			for _, k := range []int{1 - most(r), 2 - most(r), -5, -1, 0, 1, 2, 5, most(r) - 1, most(r)} {
				for _, i := range []int{1 - most(s), -17, -9, -2, -1, 0, 1, 2, 3, 9, 17, 256, most(s) - 1, most(s)} {
					a, b := Key{1, r, k}, Key{1, s, i}
					want := inside(r, k) && inside(s, i) && lies(s, i, r, k)
					if got := Has(a, b); got != want {
						t.Errorf("Has(%d, %d) is %t", a, b, got)
					}
				}
			}
		}
	}
}

func TestHasTold(t *testing.T) {
	for _, c := range []struct {
		a, b Key
		want bool
	}{
		{Key{1, 0, 2}, Key{1, 1, 3}, true},
		{Key{1, 0, 2}, Key{1, 1, 4}, true},
		{Key{1, 0, 2}, Key{1, 1, 5}, false},
		{Key{1, 0, 2}, Key{1, 1, 2}, false},
		{Key{-1, 0, -1}, Key{-1, 1, -3}, true},
		{Key{1, 1, 3}, Key{1, 0, 2}, false},
		{Key{1, 0, 2}, Key{1, 0, 2}, true},
		{Key{1, 0, 2}, Key{1, 0, 3}, false},
		{Key{1, -4, 64}, Key{1, 8, 1 << 18}, true},
		{Key{1, -4, -63}, Key{1, 8, 1 - 1<<18}, true},
		{Key{}, Key{}, true},
		{Key{0, 0, 0}, Key{0, 1, -1}, true},
		// Of another side.
		{Key{1, 0, 2}, Key{-1, 0, 2}, false},
		{Key{-1, 0, 2}, Key{1, 1, 3}, false},
		{Key{0, 0, 2}, Key{1, 0, 2}, false},
		{Key{2, 0, 2}, Key{1, 0, 2}, false},
		{Key{7, 0, 2}, Key{7, 1, 3}, true},
		// Of an index that the schema hasn't.
		{Key{1, 0, 1025}, Key{1, 0, 1025}, false},
		{Key{1, 0, -1024}, Key{1, 0, -1024}, false},
		{Key{1, -4, 65}, Key{1, 8, 1<<18 + 1}, false},
		{Key{1, -4, -64}, Key{1, 8, -1 << 18}, false},
		{Key{1, 0, 0}, Key{1, 0, 1025}, false},
		{Key{1, 0, math.MaxInt}, Key{1, 0, 0}, false},
		{Key{1, 0, math.MinInt}, Key{1, 0, math.MinInt}, false},
		// Of no schema.
		{Key{1, -5, 0}, Key{1, -5, 0}, false},
		{Key{1, 9, 0}, Key{1, 9, 0}, false},
		{Key{1, -5, 0}, Key{1, 0, 0}, false},
		{Key{1, 0, 0}, Key{1, 9, 0}, false},
		{Key{1, math.MinInt, 0}, Key{1, math.MaxInt, 0}, false},
	} {
		if got := Has(c.a, c.b); got != c.want {
			t.Errorf("Has(%d, %d) is %t", c.a, c.b, got)
		}
	}
}

// P4.3

// to goes to a coarser schema that there is.
func to(t *testing.T, from, to, index int) int {
	t.Helper()
	i, e := To(from, to, index)
	if e != api.OK {
		t.Fatalf("To(%d, %d, %d) = %d, %d", from, to, index, i, e)
	}
	return i
}

func TestTwoSteps(t *testing.T) {
	for _, from := range schemas() {
		for first := -4; first <= from; first++ {
			for last := -4; last <= first; last++ {
				for _, i := range indices(from) {
					one, two := to(t, from, last, i), to(t, first, last, to(t, from, first, i))
					if one != two {
						t.Errorf("%d by %d is %d by %d, but by way of %d it is %d", i, from, one, last, first, two)
					}
				}
			}
		}
	}
}

func TestOneByOne(t *testing.T) {
	for _, i := range indices(8) {
		at := i
		for s := 8; s > -4; s-- {
			at = to(t, s, s-1, at)
			if at != to(t, 8, s-1, i) {
				t.Errorf("%d by 8, step by step, is %d by %d", i, at, s-1)
			}
		}
	}
}

// Of all indices that a schema has each bucket of a coarser one has as many.
func TestHowMany(t *testing.T) {
	for _, from := range schemas() {
		for last := -4; last <= from; last++ {
			// The least index stands at 0.
			had := make([]int, 2*most(last))
			for i := 1 - most(from); i <= most(from); i++ {
				k, e := To(from, last, i)
				if e != api.OK || k <= -most(last) || k > most(last) {
					t.Fatalf("To(%d, %d, %d) = %d, %d", from, last, i, k, e)
				}
				had[k+most(last)-1]++
			}
			for k, n := range had {
				if n != 1<<(from-last) {
					t.Errorf("%d by %d is %d by %d", k+1-most(last), last, n, from)
				}
			}
		}
	}
}

// Each one has the place of a coarser one, wherever in it.
func TestOfAndTo(t *testing.T) {
	for _, from := range schemas() {
		for last := -4; last <= from; last++ {
			for u := 1 - 1<<18; u <= 1<<18; u += 509 {
				i, ok := Of(from, u)
				k, same := Of(last, u)
				if !ok || !same || k != to(t, from, last, i) || !Has(Key{-1, last, k}, Key{-1, from, i}) {
					t.Errorf("the place %d: %d by %d, %d by %d", u, i, from, k, last)
				}
			}
		}
	}
}
