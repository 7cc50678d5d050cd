// Package num is layer 1: see shared/doc/01-num.md.
package num

import (
	"math"
	"math/bits"
	"pluvial/api"
)

// Wide is a number of 128 bits.
type Wide struct {
	High uint64
	Low  uint64
}

// Add are counts together.
func Add(l ...uint64) (uint64, api.Errno) {
	var sum uint64
	for _, n := range l {
		if n > math.MaxUint64-sum {
			return 0, api.ErrOver
		}
		sum += n
	}
	return sum, api.OK
}

// Sub is a count less another one.
func Sub(a, b uint64) (uint64, api.Errno) {
	if a < b {
		return 0, api.ErrOver
	}
	return a - b, api.OK
}

// AddInt are whole numbers together, as one sum: nothing is lost on the way.
func AddInt(l ...int64) (int64, api.Errno) {
	// 128 bits, the highest of them the sign: so a sum that leaves int64 on the way can come back.
	var high int64
	var low uint64
	for _, n := range l {
		after, carry := bits.Add64(low, uint64(n), 0)
		low = after
		high += n>>63 + int64(carry)
	}
	sum := int64(low)
	if high != sum>>63 {
		return 0, api.ErrOver
	}
	return sum, api.OK
}

// SubInt is a whole number less another one.
func SubInt(a, b int64) (int64, api.Errno) {
	if b > 0 && a < math.MinInt64+b || b < 0 && a > math.MaxInt64+b {
		return 0, api.ErrOver
	}
	return a - b, api.OK
}

// Mul are two counts, one as often as the other.
func Mul(a, b uint64) Wide {
	high, low := bits.Mul64(a, b)
	return Wide{High: high, Low: low}
}

// Less says whether one number is less than another one.
func (w Wide) Less(x Wide) bool {
	if w.High != x.High {
		return w.High < x.High
	}
	return w.Low < x.Low
}

// Ceil is a number divided, rounded up; ErrOver: it is too great, or divided by nothing.
func (w Wide) Ceil(by uint64) (uint64, api.Errno) {
	// Div64 panics just here; a by of 0 is among these.
	if w.High >= by {
		return 0, api.ErrOver
	}
	whole, rest := bits.Div64(w.High, w.Low, by)
	if rest == 0 {
		return whole, api.OK
	}
	return Add(whole, 1)
}

// Zig is a whole number as a count: those near nothing are small.
func Zig(n int64) uint64 {
	// By turned bits, not by a sign: the least number has no opposite.
	if n < 0 {
		return uint64(^n)<<1 | 1
	}
	return uint64(n) << 1
}

// Zag is a count as a whole number again.
func Zag(n uint64) int64 {
	half := int64(n >> 1)
	if n&1 == 1 {
		return ^half
	}
	return half
}

// Up is a number divided by a power of two, rounded up.
func Up(n int, bits uint) int {
	down := Down(n, bits)
	if down<<bits != n {
		return down + 1
	}
	return down
}

// Down is a number divided by a power of two, rounded down.
func Down(n int, bits uint) int { return n >> bits }

// Ratio compares two fractions: below 0, 0, above 0.
func Ratio(a, b, c, d uint64) int {
	first, second := Mul(a, d), Mul(c, b)
	switch {
	case first.Less(second):
		return -1
	case second.Less(first):
		return 1
	}
	return 0
}
