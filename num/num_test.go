package num

import (
	"math"
	"math/big"
	"pluvial/api"
	"slices"
	"testing"
)

const (
	maxUint = math.MaxUint64
	maxInt  = math.MaxInt64
	minInt  = math.MinInt64
)

// edges are counts near the ends, near powers of two, and some with bits all over.
func edges() []uint64 {
	l := []uint64{0, 1, 2, 3, 5, 7, 10, 1000, 0x123456789abcdef, 0xfedcba9876543210, 0xaaaaaaaaaaaaaaaa, 0x5555555555555555}
	for _, bits := range []int{8, 31, 32, 33, 40, 62, 63} {
		l = append(l, 1<<bits-1, 1<<bits, 1<<bits+1)
	}
	return append(l, maxUint-2, maxUint-1, maxUint)
}

// edgeInts are the same bits as whole numbers.
func edgeInts() []int64 {
	var l []int64
	for _, n := range edges() {
		l = append(l, int64(n), -int64(n))
	}
	return l
}

func wide(w Wide) *big.Int {
	n := new(big.Int).SetUint64(w.High)
	return n.Or(n.Lsh(n, 64), new(big.Int).SetUint64(w.Low))
}

func count(n uint64) *big.Int { return new(big.Int).SetUint64(n) }

// wantCount is what a call must answer whose true result is n.
func wantCount(n *big.Int) (uint64, api.Errno) {
	if !n.IsUint64() {
		return 0, api.ErrOver
	}
	return n.Uint64(), api.OK
}

func wantInt(n *big.Int) (int64, api.Errno) {
	if !n.IsInt64() {
		return 0, api.ErrOver
	}
	return n.Int64(), api.OK
}

// P1.1

func checkAdd(t *testing.T, l ...uint64) {
	t.Helper()
	sum := new(big.Int)
	for _, n := range l {
		sum.Add(sum, count(n))
	}
	was := slices.Clone(l)
	got, e := Add(l...)
	if want, wantE := wantCount(sum); got != want || e != wantE {
		t.Errorf("Add(%d) = %d, %d; want %d, %d", l, got, e, want, wantE)
	}
	if !slices.Equal(l, was) {
		t.Errorf("Add changed its numbers: %d, were %d", l, was)
	}
}

func TestAdd(t *testing.T) {
	checkAdd(t)
	for _, a := range edges() {
		checkAdd(t, a)
		for _, b := range edges() {
			checkAdd(t, a, b)
			for _, c := range edges() {
				checkAdd(t, a, b, c)
			}
		}
	}
	checkAdd(t, maxUint, maxUint, 2)
	checkAdd(t, maxUint, 0, 0, 0)
	checkAdd(t, 1<<63, 1<<63, 1<<63, 1<<63, 5)
	checkAdd(t, 1, 2, 3, 4, 5, 6, 7)
}

func TestAddTold(t *testing.T) {
	for _, c := range []struct {
		l    []uint64
		want uint64
		e    api.Errno
	}{
		{nil, 0, api.OK},
		{[]uint64{}, 0, api.OK},
		{[]uint64{7}, 7, api.OK},
		{[]uint64{1, 2, 3}, 6, api.OK},
		{[]uint64{maxUint}, maxUint, api.OK},
		{[]uint64{maxUint - 1, 1}, maxUint, api.OK},
		{[]uint64{maxUint, 1}, 0, api.ErrOver},
		{[]uint64{1, maxUint}, 0, api.ErrOver},
		{[]uint64{maxUint, 1, maxUint}, 0, api.ErrOver},
	} {
		if got, e := Add(c.l...); got != c.want || e != c.e {
			t.Errorf("Add(%d) = %d, %d; want %d, %d", c.l, got, e, c.want, c.e)
		}
	}
}

func TestSub(t *testing.T) {
	for _, a := range edges() {
		for _, b := range edges() {
			got, e := Sub(a, b)
			if want, wantE := wantCount(new(big.Int).Sub(count(a), count(b))); got != want || e != wantE {
				t.Errorf("Sub(%d, %d) = %d, %d; want %d, %d", a, b, got, e, want, wantE)
			}
		}
	}
	if n, e := Sub(0, 1); n != 0 || e != api.ErrOver {
		t.Error(n, e)
	}
	if n, e := Sub(maxUint, maxUint); n != 0 || e != api.OK {
		t.Error(n, e)
	}
}

func checkAddInt(t *testing.T, l ...int64) {
	t.Helper()
	sum := new(big.Int)
	for _, n := range l {
		sum.Add(sum, big.NewInt(n))
	}
	was := slices.Clone(l)
	got, e := AddInt(l...)
	if want, wantE := wantInt(sum); got != want || e != wantE {
		t.Errorf("AddInt(%d) = %d, %d; want %d, %d", l, got, e, want, wantE)
	}
	if !slices.Equal(l, was) {
		t.Errorf("AddInt changed its numbers: %d, were %d", l, was)
	}
}

func TestAddInt(t *testing.T) {
	checkAddInt(t)
	for _, a := range edgeInts() {
		checkAddInt(t, a)
		for _, b := range edgeInts() {
			checkAddInt(t, a, b)
		}
	}
	ends := []int64{minInt, minInt + 1, -1 << 62, -1, 0, 1, 1 << 62, maxInt - 1, maxInt}
	for _, a := range ends {
		for _, b := range ends {
			for _, c := range ends {
				for _, d := range ends {
					checkAddInt(t, a, b, c, d)
				}
			}
		}
	}
}

func TestAddIntTold(t *testing.T) {
	for _, c := range []struct {
		l    []int64
		want int64
		e    api.Errno
	}{
		{nil, 0, api.OK},
		{[]int64{-5, 2}, -3, api.OK},
		{[]int64{minInt}, minInt, api.OK},
		{[]int64{maxInt}, maxInt, api.OK},
		{[]int64{maxInt, 1}, 0, api.ErrOver},
		{[]int64{minInt, -1}, 0, api.ErrOver},
		{[]int64{maxInt, 1, -1}, maxInt, api.OK},
		{[]int64{minInt, -1, 1}, minInt, api.OK},
		{[]int64{maxInt, maxInt, maxInt, minInt, minInt, minInt}, -3, api.OK},
		{[]int64{1 << 62, 1 << 62, 1 << 62, 1 << 62}, 0, api.ErrOver},
		{[]int64{minInt, minInt}, 0, api.ErrOver},
		{[]int64{minInt, minInt, 5}, 0, api.ErrOver},
	} {
		if got, e := AddInt(c.l...); got != c.want || e != c.e {
			t.Errorf("AddInt(%d) = %d, %d; want %d, %d", c.l, got, e, c.want, c.e)
		}
	}
}

// However far a sum of many goes on the way, it comes back.
func TestAddIntMany(t *testing.T) {
	const many = 1 << 17
	l := slices.Concat(slices.Repeat([]int64{maxInt}, many), slices.Repeat([]int64{minInt}, many), []int64{many, -9})
	if n, e := AddInt(l...); n != -9 || e != api.OK {
		t.Error(n, e)
	}
	if n, e := AddInt(l[:many+5]...); n != 0 || e != api.ErrOver {
		t.Error(n, e)
	}
	if n, e := AddInt(l[5:]...); n != 0 || e != api.ErrOver {
		t.Error(n, e)
	}
}

func TestSubInt(t *testing.T) {
	for _, a := range edgeInts() {
		for _, b := range edgeInts() {
			got, e := SubInt(a, b)
			if want, wantE := wantInt(new(big.Int).Sub(big.NewInt(a), big.NewInt(b))); got != want || e != wantE {
				t.Errorf("SubInt(%d, %d) = %d, %d; want %d, %d", a, b, got, e, want, wantE)
			}
		}
	}
	for _, c := range []struct {
		a, b, want int64
		e          api.Errno
	}{
		{5, 7, -2, api.OK},
		{minInt, 0, minInt, api.OK},
		{minInt, 1, 0, api.ErrOver},
		{maxInt, -1, 0, api.ErrOver},
		{0, minInt, 0, api.ErrOver},
		{-1, minInt, maxInt, api.OK},
		{minInt, minInt, 0, api.OK},
		{-2, maxInt, 0, api.ErrOver},
		{-1, maxInt, minInt, api.OK},
	} {
		if got, e := SubInt(c.a, c.b); got != c.want || e != c.e {
			t.Errorf("SubInt(%d, %d) = %d, %d; want %d, %d", c.a, c.b, got, e, c.want, c.e)
		}
	}
}

// P1.2

func TestMul(t *testing.T) {
	for _, a := range edges() {
		for _, b := range edges() {
			if got, want := wide(Mul(a, b)), new(big.Int).Mul(count(a), count(b)); got.Cmp(want) != 0 {
				t.Errorf("Mul(%d, %d) = %d; want %d", a, b, got, want)
			}
		}
	}
	if w := Mul(maxUint, maxUint); w != (Wide{High: maxUint - 1, Low: 1}) {
		t.Error(w)
	}
	if w := Mul(1<<63, 2); w != (Wide{High: 1, Low: 0}) {
		t.Error(w)
	}
}

func TestLess(t *testing.T) {
	l := []Wide{{0, 0}, {0, 1}, {0, maxUint}, {1, 0}, {1, 1}, {1, maxUint}, {5, 3}, {maxUint, 0}, {maxUint, maxUint}}
	for i, a := range l {
		for k, b := range l {
			if a.Less(b) != (i < k) {
				t.Errorf("%d less than %d: %t", a, b, a.Less(b))
			}
		}
	}
}

func checkCeil(t *testing.T, w Wide, by uint64) {
	t.Helper()
	var want uint64
	wantE := api.ErrOver
	if by != 0 {
		up := new(big.Int).Add(wide(w), count(by-1))
		want, wantE = wantCount(up.Div(up, count(by)))
	}
	if got, e := w.Ceil(by); got != want || e != wantE {
		t.Errorf("%d.Ceil(%d) = %d, %d; want %d, %d", w, by, got, e, want, wantE)
	}
}

func TestCeil(t *testing.T) {
	for _, by := range edges() {
		for _, high := range edges() {
			for _, low := range edges() {
				checkCeil(t, Wide{High: high, Low: low}, by)
			}
		}
		// Around by times the greatest quotient: there rounding up alone is too great.
		w := Mul(by, maxUint)
		checkCeil(t, w, by)
		checkCeil(t, Wide{High: w.High, Low: w.Low + 1}, by)
		checkCeil(t, Wide{High: w.High, Low: w.Low - 1}, by)
	}
}

func TestCeilTold(t *testing.T) {
	for _, c := range []struct {
		w    Wide
		by   uint64
		want uint64
		e    api.Errno
	}{
		{Wide{0, 0}, 0, 0, api.ErrOver},
		{Wide{0, 7}, 0, 0, api.ErrOver},
		{Wide{3, 7}, 0, 0, api.ErrOver},
		{Wide{0, 0}, 9, 0, api.OK},
		{Wide{0, 6}, 3, 2, api.OK},
		{Wide{0, 7}, 3, 3, api.OK},
		{Wide{0, maxUint}, 1, maxUint, api.OK},
		{Wide{1, 0}, 1, 0, api.ErrOver},
		{Wide{1, 0}, 2, 1 << 63, api.OK},
		{Wide{1, maxUint - 1}, 2, maxUint, api.OK},
		{Wide{1, maxUint}, 2, 0, api.ErrOver},
		{Wide{2, 0}, 2, 0, api.ErrOver},
		{Wide{maxUint, maxUint}, maxUint, 0, api.ErrOver},
		{Wide{maxUint - 1, 1}, maxUint, maxUint, api.OK},
		{Wide{maxUint - 1, 2}, maxUint, 0, api.ErrOver},
	} {
		if got, e := c.w.Ceil(c.by); got != c.want || e != c.e {
			t.Errorf("%d.Ceil(%d) = %d, %d; want %d, %d", c.w, c.by, got, e, c.want, c.e)
		}
	}
}

func TestRatio(t *testing.T) {
	l := []uint64{0, 1, 2, 3, 7, 1<<32 - 1, 1 << 32, 1<<32 + 1, 1 << 63, maxUint - 1, maxUint}
	for _, a := range l {
		for _, b := range l {
			for _, c := range l {
				for _, d := range l {
					first, second := new(big.Int).Mul(count(a), count(d)), new(big.Int).Mul(count(c), count(b))
					if got := Ratio(a, b, c, d); got != first.Cmp(second) {
						t.Errorf("Ratio(%d, %d, %d, %d) = %d", a, b, c, d, got)
					}
				}
			}
		}
	}
	if Ratio(1, 2, 2, 3) != -1 || Ratio(2, 3, 1, 2) != 1 || Ratio(1, 2, 2, 4) != 0 || Ratio(1, 0, 1, 5) != 1 {
		t.Error("a half, two thirds, one by nothing")
	}
}

// P1.3

func TestZig(t *testing.T) {
	for _, c := range []struct {
		n    int64
		want uint64
	}{
		{0, 0}, {-1, 1}, {1, 2}, {-2, 3}, {2, 4}, {-64, 127}, {64, 128},
		{maxInt, maxUint - 1}, {minInt, maxUint}, {minInt + 1, maxUint - 2},
	} {
		if got := Zig(c.n); got != c.want {
			t.Errorf("Zig(%d) = %d; want %d", c.n, got, c.want)
		}
		if got := Zag(c.want); got != c.n {
			t.Errorf("Zag(%d) = %d; want %d", c.want, got, c.n)
		}
	}
	for _, n := range edgeInts() {
		twice := new(big.Int).Lsh(new(big.Int).Abs(big.NewInt(n)), 1)
		if n < 0 {
			twice.Sub(twice, big.NewInt(1))
		}
		if count(Zig(n)).Cmp(twice) != 0 || Zag(Zig(n)) != n {
			t.Errorf("Zig(%d) = %d; want %d; and back %d", n, Zig(n), twice, Zag(Zig(n)))
		}
	}
	for _, n := range edges() {
		if Zig(Zag(n)) != n {
			t.Errorf("Zig(Zag(%d)) = %d", n, Zig(Zag(n)))
		}
	}
}

func TestUpDown(t *testing.T) {
	var l []int
	for n := range 300 {
		l = append(l, n, -n)
	}
	for bits := range 41 {
		for _, n := range []int{1<<bits - 1, 1 << bits, 1<<bits + 1, 3<<bits>>2 + 1} {
			if n <= 1<<40 {
				l = append(l, n, -n)
			}
		}
	}
	for _, n := range l {
		for bits := range uint(41) {
			by := 1 << bits
			down := n / by
			if n%by < 0 {
				down--
			}
			up := n / by
			if n%by > 0 {
				up++
			}
			if Down(n, bits) != down || Up(n, bits) != up {
				t.Errorf("%d by %d bits: down %d, want %d; up %d, want %d", n, bits, Down(n, bits), down, Up(n, bits), up)
			}
		}
	}
}

func TestUpDownTold(t *testing.T) {
	for _, c := range []struct {
		n        int
		bits     uint
		up, down int
	}{
		{-3, 1, -1, -2}, {3, 1, 2, 1}, {4, 1, 2, 2}, {-4, 1, -2, -2}, {0, 40, 0, 0}, {1, 40, 1, 0}, {-1, 40, 0, -1},
		{1 << 40, 40, 1, 1}, {-1 << 40, 40, -1, -1}, {1<<40 - 1, 40, 1, 0}, {1 - 1<<40, 40, 0, -1},
		{1 << 40, 0, 1 << 40, 1 << 40}, {-1 << 40, 0, -1 << 40, -1 << 40}, {7, 0, 7, 7},
	} {
		if up, down := Up(c.n, c.bits), Down(c.n, c.bits); up != c.up || down != c.down {
			t.Errorf("%d by %d bits: up %d, down %d; want %d, %d", c.n, c.bits, up, down, c.up, c.down)
		}
	}
}

// R1: no number makes a call panic.
func TestAnyNumbers(t *testing.T) {
	for _, n := range []int{minInt, minInt + 1, -1, 0, 1, maxInt} {
		for _, bits := range []uint{0, 1, 41, 62, 63, 64, 65, 1 << 31, maxUint} {
			Up(n, bits)
			Down(n, bits)
		}
	}
}
