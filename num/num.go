// Package num is layer 1: see shared/doc/01-num.md.
package num

import (
	"math"
	"math/bits"
)

// Add is a sum, or the bound that it would be beyond.
func Add(a, b int64) int64 {
	sum := a + b
	// Only two numbers of one sign can wrap round, and the sum then has the other one.
	if a > 0 && b > 0 && sum < 0 {
		return math.MaxInt64
	}
	if a < 0 && b < 0 && sum >= 0 {
		return math.MinInt64
	}
	return sum
}

// Sub is a difference, or the bound that it would be beyond.
func Sub(a, b int64) int64 {
	left := a - b
	// Not Add of -b: the least int64 has no opposite.
	if a >= 0 && b < 0 && left < 0 {
		return math.MaxInt64
	}
	if a < 0 && b > 0 && left >= 0 {
		return math.MinInt64
	}
	return left
}

// Mul is a product, or the bound that it would be beyond.
func Mul(a, b int64) int64 {
	high, low := bits.Mul64(size(a), size(b))
	if (a < 0) != (b < 0) {
		if high > 0 || low > 1<<63 {
			return math.MinInt64
		}
		// Negated ahead of the conversion, so that 2^63 becomes the least int64.
		return int64(-low)
	}
	return bounded(high, low)
}

// Frac is so many parts of a number: n times up by down, without what is left.
func Frac(n, up, down int64) int64 {
	whole, _ := parts(n, up, down)
	return whole
}

// FracUp is the same, one more if something is left.
func FracUp(n, up, down int64) int64 {
	whole, left := parts(n, up, down)
	if left {
		return Add(whole, 1)
	}
	return whole
}

// Clamp is a number, or the nearer one of two bounds.
func Clamp(n, lo, hi int64) int64 {
	// lo comes last: it holds where the bounds are the wrong way round.
	return max(min(n, hi), lo)
}

// parts is n times up by down, and whether something is left; the product has
// 128 bits, since it may be beyond an int64 where the answer isn't.
func parts(n, up, down int64) (int64, bool) {
	if n < 0 || up < 0 || down <= 0 {
		return 0, false
	}
	high, low := bits.Mul64(uint64(n), uint64(up))
	by := uint64(down)
	// Div64 panics where the quotient has more than 64 bits.
	if high >= by {
		return math.MaxInt64, false
	}
	whole, left := bits.Div64(high, low, by)
	return bounded(0, whole), left > 0
}

// size is how far a number is from 0; of the least int64 too.
func size(n int64) uint64 {
	if n < 0 {
		return -uint64(n)
	}
	return uint64(n)
}

// bounded is a number of 128 bits, or the greatest int64.
func bounded(high, low uint64) int64 {
	if high > 0 || low > math.MaxInt64 {
		return math.MaxInt64
	}
	return int64(low)
}
