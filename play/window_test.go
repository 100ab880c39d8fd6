package play_test

import (
	"math/big"

	"greenhouse/api"
	"greenhouse/policy"
)

// counted is how often there were which idle times, of all that there ever were.
type counted struct {
	bins [api.Bins]int64
	over int64
}

func count(idles []int64) *counted {
	c := &counted{}
	all := int64(0)
	for _, x := range idles {
		if x < api.Bins {
			c.bins[x]++
		} else {
			c.over++
		}
		if all++; all < api.MaxCount {
			continue
		}
		for i := range c.bins {
			c.bins[i] /= 2
		}
		c.over /= 2
		all = c.in() + c.over
	}
	return c
}

func (c *counted) in() int64 {
	var sum int64
	for _, n := range c.bins {
		sum += n
	}
	return sum
}

// cut is up to where so much of a hundred is.
func (c *counted) cut(percent int64) int64 {
	var upTo int64
	for i, n := range c.bins {
		upTo += n
		if n > 0 && 100*upTo >= percent*c.in() {
			return int64(i)
		}
	}
	return 0
}

// spread tells whether the variance of the bins' counts is 4 times the square of their mean, or more.
func (c *counted) spread() bool {
	if c.in() == 0 {
		return false
	}
	mean := big.NewRat(c.in(), api.Bins)
	variance := new(big.Rat)
	for _, n := range c.bins {
		off := new(big.Rat).Sub(big.NewRat(n, 1), mean)
		variance.Add(variance, off.Mul(off, off))
	}
	variance.Quo(variance, big.NewRat(api.Bins, 1))
	return variance.Cmp(mean.Mul(mean, mean).Mul(mean, big.NewRat(4, 1))) >= 0
}

// down is a number rounded down, and within the bounds of times.
func down(x *big.Rat) int64 {
	whole := new(big.Int).Div(x.Num(), x.Denom())
	switch {
	case whole.Sign() < 0:
		return 0
	case whole.Cmp(big.NewInt(api.MaxTime)) > 0:
		return api.MaxTime
	}
	return whole.Int64()
}

// comes is where the line that is nearest to the last idle times is, behind these: by the normal equations of a and b, of a and b times i.
func comes(idles []int64) int64 {
	last := idles[max(0, len(idles)-api.Recent):]
	if len(last) == 1 {
		return last[0]
	}
	rat := func(n int64) *big.Rat { return new(big.Rat).SetInt64(n) }
	mul := func(a, b *big.Rat) *big.Rat { return new(big.Rat).Mul(a, b) }
	sub := func(a, b *big.Rat) *big.Rat { return new(big.Rat).Sub(a, b) }
	n, sumI, sumII, sumX, sumIX := rat(int64(len(last))), rat(0), rat(0), rat(0), rat(0)
	for i, x := range last {
		at, is := rat(int64(i)), rat(min(x, api.MaxTime))
		sumI.Add(sumI, at)
		sumII.Add(sumII, mul(at, at))
		sumX.Add(sumX, is)
		sumIX.Add(sumIX, mul(at, is))
	}
	whole := sub(mul(n, sumII), mul(sumI, sumI))
	a := new(big.Rat).Quo(sub(mul(sumX, sumII), mul(sumI, sumIX)), whole)
	b := new(big.Rat).Quo(sub(mul(n, sumIX), mul(sumI, sumX)), whole)
	return down(a.Add(a, b.Mul(b, n)))
}

// window is from when to when behind a call a sandbox is to be there, by all idle times.
func window(idles []int64) policy.Window {
	c := count(idles)
	fixed := policy.Window{How: policy.Fixed, End: 10}
	switch all := c.in() + c.over; {
	case all < 4:
		return fixed
	case 2*c.over > all:
		n := comes(idles)
		pre := n * 85 / 100
		return policy.Window{How: policy.Cast, Pre: pre, End: max((n*115+99)/100, pre+1)}
	case !c.spread():
		return fixed
	}
	return policy.Window{How: policy.Hist, Pre: c.cut(5) * 9 / 10, End: ((c.cut(99)+1)*11 + 9) / 10}
}
