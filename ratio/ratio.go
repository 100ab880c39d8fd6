// Package ratio is layer 2: see shared/doc/02-ratio.md.
package ratio

import (
	"cmp"
	"math/bits"
)

// Ratio is a number by another one.
type Ratio struct{ Num, Den uint64 }

// Right tells whether it is a number.
func (r Ratio) Right() bool { return r.Den > 0 }

// Compare is the order of two: -1, 0 or 1.
func (r Ratio) Compare(o Ratio) int {
	// Crosswise, and with 128 bits: a division would lose parts, 64 bits would wrap round.
	high, low := bits.Mul64(r.Num, o.Den)
	otherHigh, otherLow := bits.Mul64(o.Num, r.Den)
	if high != otherHigh {
		return cmp.Compare(high, otherHigh)
	}
	return cmp.Compare(low, otherLow)
}

// Floor is the greatest whole number that isn't above it.
func (r Ratio) Floor() uint64 {
	if !r.Right() {
		return 0
	}
	return r.Num / r.Den
}

// Above is a whole number and a part: n and up by down; false: it has no room.
func Above(n, up, down uint64) (Ratio, bool) {
	if down == 0 {
		return Ratio{}, false
	}
	high, low := bits.Mul64(n, down)
	sum, carry := bits.Add64(low, up, 0)
	if high > 0 || carry > 0 {
		return Ratio{}, false
	}
	return Ratio{Num: sum, Den: down}, true
}
