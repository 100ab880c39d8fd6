package cast_test

import (
	"math"
	"math/big"
	"math/rand"
	"slices"
	"testing"

	"greenhouse/cast"
)

const most = int64(1) << 40

// model is P6.1 by its words: the line of the least sum of squares, found by
// its two equations in exact fractions.
func model(list []int64) int64 {
	list = slices.Clone(list[max(0, len(list)-8):])
	for i, x := range list {
		list[i] = min(max(x, 0), most)
	}
	if len(list) == 0 {
		return 0
	}
	if len(list) == 1 {
		return list[0]
	}
	at := lineAt(list, int64(len(list)))
	// Div goes down for a divisor above 0, below 0 too.
	down := new(big.Int).Div(at.Num(), at.Denom())
	if down.Sign() < 0 {
		return 0
	}
	if down.Cmp(big.NewInt(most)) > 0 {
		return most
	}
	return down.Int64()
}

// lineAt is where the line nearest to numbers at 0, 1, .. is at a place.
func lineAt(list []int64, place int64) *big.Rat {
	n, x1, x2, y1, xy := whole(int64(len(list))), whole(0), whole(0), whole(0), whole(0)
	for i, y := range list {
		x := whole(int64(i))
		x1.Add(x1, x)
		x2.Add(x2, times(x, x))
		y1.Add(y1, whole(y))
		xy.Add(xy, times(x, whole(y)))
	}
	slope := new(big.Rat).Sub(times(n, xy), times(x1, y1))
	slope.Quo(slope, new(big.Rat).Sub(times(n, x2), times(x1, x1)))
	start := new(big.Rat).Sub(y1, times(slope, x1))
	start.Quo(start, n)
	return start.Add(start, times(slope, whole(place)))
}

func whole(x int64) *big.Rat { return new(big.Rat).SetInt64(x) }

func times(a, b *big.Rat) *big.Rat { return new(big.Rat).Mul(a, b) }

// check holds Next against the model too, so that no wanted number is a slip.
func check(t *testing.T, list []int64, want int64) {
	t.Helper()
	if got := cast.Next(list); got != want {
		t.Errorf("Next(%v) = %d, want %d", list, got, want)
	}
	if got := model(list); got != want {
		t.Errorf("the model of %v is %d, want %d", list, got, want)
	}
}

// P6.1

func TestOrdinaryLines(t *testing.T) {
	check(t, []int64{3, 5, 7}, 9)
	check(t, []int64{10, 0}, 0)
	check(t, []int64{10, 8}, 6)
	check(t, []int64{9, 7, 5}, 3)
	check(t, []int64{0, 1, 2, 3, 4, 5, 6}, 7)
	check(t, []int64{80, 70, 60, 50, 40, 30, 20, 10}, 0)
	check(t, []int64{81, 71, 61, 51, 41, 31, 21, 11}, 1)
}

func TestNoneAndOne(t *testing.T) {
	check(t, nil, 0)
	check(t, []int64{}, 0)
	check(t, []int64{4}, 4)
	check(t, []int64{0}, 0)
	check(t, []int64{most}, most)
	check(t, []int64{-1}, 0)
	check(t, []int64{most + 1}, most)
	check(t, []int64{math.MinInt64}, 0)
	check(t, []int64{math.MaxInt64}, most)
}

func TestTheLastEightAloneCount(t *testing.T) {
	check(t, []int64{2, 3, 4, 5, 6, 7, 8}, 9)
	check(t, []int64{1, 2, 3, 4, 5, 6, 7, 8}, 9)
	check(t, []int64{900, 1, 2, 3, 4, 5, 6, 7, 8}, 9)
	check(t, []int64{math.MaxInt64, math.MinInt64, 1, 2, 3, 4, 5, 6, 7, 8}, 9)
	// The eldest of the eight does count: a quarter less for each one it is more.
	check(t, []int64{0, 29, 2, 3, 4, 5, 6, 7, 8}, 2)

	many := make([]int64, 5000)
	for i := range many {
		many[i] = int64(i*i) % 977
	}
	copy(many[len(many)-8:], []int64{10, 20, 30, 40, 50, 60, 70, 80})
	check(t, many, 90)
}

func TestNumbersOutsideCountAsTheBounds(t *testing.T) {
	check(t, []int64{-5, 3}, 6)
	check(t, []int64{-1, 3}, 6)
	check(t, []int64{math.MinInt64, 3}, 6)
	check(t, []int64{3, math.MinInt64, 3}, 2)
	check(t, []int64{math.MinInt64, math.MinInt64}, 0)
	check(t, []int64{most + 1, most - 1}, most-2)
	check(t, []int64{math.MaxInt64, most - 1}, most-2)
	check(t, []int64{1 << 50, 1 << 50}, most)
	check(t, []int64{math.MaxInt64, math.MaxInt64, math.MaxInt64}, most)
	check(t, []int64{math.MinInt64, math.MaxInt64}, most)
	check(t, []int64{math.MaxInt64, math.MinInt64}, 0)
	check(t, []int64{math.MaxInt64, 0, math.MaxInt64}, most*2/3)
}

func TestWhatIsLeftIsDropped(t *testing.T) {
	check(t, []int64{0, 0, 1}, 1)                // 4/3
	check(t, []int64{1, 2, 2}, 2)                // 8/3
	check(t, []int64{0, 1, 1}, 1)                // 5/3
	check(t, []int64{0, 1, 0}, 0)                // 1/3
	check(t, []int64{1, 2, 0}, 0)                // 0
	check(t, []int64{2, 4, 0}, 0)                // 0, all twice
	check(t, []int64{0, 0, 0, 1}, 1)             // 1
	check(t, []int64{0, 0, 1, 0}, 0)             // 1/2
	check(t, []int64{0, 0, 0, 0, 0, 0, 0, 2}, 1) // 1
	check(t, []int64{0, 0, 0, 0, 0, 0, 0, 3}, 1) // 3/2
	// Below 0, too: what is rounded down there is 0 in the end.
	check(t, []int64{1, 1, 0}, 0)                // -1/3
	check(t, []int64{1, 0, 0}, 0)                // -2/3
	check(t, []int64{2, 0, 0}, 0)                // -4/3
	check(t, []int64{3, 0, 0, 0, 0, 0, 0, 0}, 0) // -3/4
}

func TestTheAnswerStaysWithinItsBounds(t *testing.T) {
	check(t, []int64{2, 1}, 0)
	check(t, []int64{3, 1}, 0)
	check(t, []int64{most, 0}, 0)
	check(t, []int64{most, most, most, most, 0, 0, 0, 0}, 0)
	check(t, []int64{0, most}, most)
	check(t, []int64{0, 0, 0, 0, most, most, most, most}, most)
	check(t, []int64{most - 2, most - 1}, most)
	check(t, []int64{most - 1, most}, most)
	check(t, []int64{most - 3, most - 2}, most-1)
	// 2^40 and 2/3, and 2^40 less 1/3.
	check(t, []int64{most - 1, most, most}, most)
	check(t, []int64{most, most - 1, most}, most-1)
}

func TestNumbersAllAlike(t *testing.T) {
	for _, x := range []int64{0, 1, 2, 7, 1000, most - 1, most} {
		for n := 1; n <= 20; n++ {
			check(t, slices.Repeat([]int64{x}, n), x)
		}
	}
}

func TestEveryShortList(t *testing.T) {
	list := make([]int64, 5)
	for code := range 7 * 7 * 7 * 7 * 7 {
		for i := range list {
			list[i] = int64(code%7) - 1
			code /= 7
		}
		for n := range len(list) + 1 {
			check(t, list[:n], model(list[:n]))
		}
	}
}

func TestAnyLists(t *testing.T) {
	r := rand.New(rand.NewSource(6))
	kinds := []func() int64{
		func() int64 { return r.Int63n(12) },
		func() int64 { return r.Int63n(2000) - 100 },
		func() int64 { return most - r.Int63n(5) + 1 },
		func() int64 { return r.Int63n(most + 1) },
		func() int64 { return int64(r.Uint64()) },
		func() int64 { return int64(r.Uint64()) >> r.Intn(64) },
	}
	for round := range 20000 {
		list := make([]int64, r.Intn(13))
		for i := range list {
			list[i] = kinds[round%len(kinds)]()
		}
		check(t, list, model(list))
	}
}

func TestTheListIsNotChanged(t *testing.T) {
	for n := range 12 {
		list := make([]int64, n)
		for i := range list {
			list[i] = []int64{-5, most + 3, 7, math.MinInt64, math.MaxInt64}[i%5]
		}
		before := slices.Clone(list)
		first := cast.Next(list)
		if !slices.Equal(list, before) {
			t.Errorf("Next(%v) left %v", before, list)
		}
		if again := cast.Next(list); again != first {
			t.Errorf("Next(%v) = %d, and %d the second time", before, first, again)
		}
	}
}
