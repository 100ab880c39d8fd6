package num_test

import (
	"math"
	"math/big"
	"testing"

	"greenhouse/num"
)

const (
	most  = math.MaxInt64
	least = math.MinInt64
)

// edges is numbers around 0, around the bounds, and around where products of two leave 32 and 64 bits.
func edges() []int64 {
	list := []int64{-1000, -7, 5, 10, 1000, 3037000499, 3037000500, -3037000499, -3037000500}
	for _, middle := range []int64{0, 1 << 31, -1 << 31, 1 << 32, -1 << 32, 1 << 62, -1 << 62, most / 3, least / 3} {
		for off := int64(-2); off <= 2; off++ {
			list = append(list, middle+off)
		}
	}
	return append(list, most, most-1, most-2, least, least+1, least+2)
}

// within is a whole number of any size, or the nearer bound.
func within(n *big.Int) int64 {
	if n.IsInt64() {
		return n.Int64()
	}
	if n.Sign() < 0 {
		return least
	}
	return most
}

type two struct{ a, b, want int64 }

func checkTwo(t *testing.T, name string, f func(a, b int64) int64, list []two) {
	t.Helper()
	for _, c := range list {
		if got := f(c.a, c.b); got != c.want {
			t.Errorf("%s(%d, %d) = %d, want %d", name, c.a, c.b, got, c.want)
		}
	}
}

// checkTwoByBig holds a function against the same with numbers of any size.
func checkTwoByBig(t *testing.T, name string, f func(a, b int64) int64, exact func(z, x, y *big.Int) *big.Int) {
	t.Helper()
	for _, a := range edges() {
		for _, b := range edges() {
			want := within(exact(new(big.Int), big.NewInt(a), big.NewInt(b)))
			if got := f(a, b); got != want {
				t.Errorf("%s(%d, %d) = %d, want %d", name, a, b, got, want)
			}
		}
	}
}

// P1.1
func TestAdd(t *testing.T) {
	checkTwo(t, "Add", num.Add, []two{
		{2, 3, 5}, {-3, 5, 2}, {3, -5, -2}, {0, 0, 0},
		{most, 0, most}, {most - 1, 1, most}, {most, 1, most}, {1, most, most}, {most, most, most},
		{least, 0, least}, {least + 1, -1, least}, {least, -1, least}, {-1, least, least}, {least, least, least},
		{most, least, -1}, {least, most, -1},
	})
	checkTwoByBig(t, "Add", num.Add, (*big.Int).Add)
}

// P1.1
func TestSub(t *testing.T) {
	checkTwo(t, "Sub", num.Sub, []two{
		{5, 3, 2}, {3, 5, -2}, {-3, -5, 2}, {0, 0, 0},
		{most, -1, most}, {0, least, most}, {-1, least, most}, {0, least + 1, most}, {most, least, most},
		{least, 1, least}, {-2, most, least}, {-1, most, least}, {0, most, least + 1}, {least, most, least},
		{least, least, 0}, {most, most, 0}, {least, -1, least + 1},
	})
	checkTwoByBig(t, "Sub", num.Sub, (*big.Int).Sub)
}

// P1.1
func TestMul(t *testing.T) {
	checkTwo(t, "Mul", num.Mul, []two{
		{4, 5, 20}, {-4, 5, -20}, {4, -5, -20}, {-4, -5, 20}, {0, least, 0}, {least, 0, 0}, {0, most, 0},
		{least, 1, least}, {1, least, least}, {least, -1, most}, {-1, least, most}, {most, -1, least + 1},
		{1 << 32, 1 << 31, most}, {-1 << 32, 1 << 31, least}, {-1 << 32, -1 << 31, most}, {-1 << 32, 1<<31 + 1, least},
		{1 << 32, 1 << 32, most}, {-1 << 32, 1 << 32, least}, {1 << 62, 2, most}, {1 << 62, -2, least},
		{most, most, most}, {least, least, most}, {least, most, least}, {most, least, least},
	})
	checkTwoByBig(t, "Mul", num.Mul, (*big.Int).Mul)
}

type three struct{ a, b, c, want int64 }

func checkThree(t *testing.T, name string, f func(a, b, c int64) int64, list []three) {
	t.Helper()
	for _, c := range list {
		if got := f(c.a, c.b, c.c); got != c.want {
			t.Errorf("%s(%d, %d, %d) = %d, want %d", name, c.a, c.b, c.c, got, c.want)
		}
	}
}

// P1.2
func TestFrac(t *testing.T) {
	checkThree(t, "Frac", num.Frac, []three{
		{7, 9, 10, 6}, {10, 9, 10, 9}, {1, 1, 2, 0}, {0, 9, 10, 0}, {9, 0, 10, 0}, {9, 3, 1, 27},
		{most, 2, 4, most / 2}, {most, most, most, most}, {most, most - 1, most, most - 1}, {1 << 62, 6, 8, 3 << 60},
		{most, 3, 2, most}, {most, 2, 1, most}, {most, most, 1, most}, {most, most, most - 1, most}, {1 << 62, 2, 1, most}, {1 << 62, 4, 1, most},
		{-1, 1, 1, 0}, {1, -1, 1, 0}, {-1, -1, 1, 0}, {least, least, 1, 0}, {5, 1, 0, 0}, {5, 1, -1, 0}, {5, -1, -1, 0}, {0, 0, 0, 0}, {most, most, least, 0},
	})
}

// P1.2
func TestFracUp(t *testing.T) {
	checkThree(t, "FracUp", num.FracUp, []three{
		{7, 9, 10, 7}, {10, 9, 10, 9}, {1, 1, 2, 1}, {0, 9, 10, 0}, {9, 0, 10, 0}, {9, 3, 1, 27}, {1, 1, most, 1},
		{most, 2, 4, most/2 + 1}, {most, most, most, most}, {most, most - 1, most, most - 1}, {most - 1, most - 1, most, most - 1}, {1 << 62, 6, 8, 3 << 60},
		{most, 3, 2, most}, {most, 2, 1, most}, {most, most, 1, most}, {most, most, most - 1, most}, {1 << 62, 2, 1, most}, {1 << 62, 4, 1, most},
		{-1, 1, 1, 0}, {-7, 9, 10, 0}, {1, -1, 2, 0}, {-1, -1, 2, 0}, {least, least, 3, 0}, {5, 1, 0, 0}, {5, 1, -2, 0}, {5, -1, -2, 0}, {0, 0, 0, 0}, {most, most, least, 0},
	})
}

// P1.2: the answer is the greatest int64 and something is left, so that 1 more would be beyond it.
func TestFracUpAtTheGreatest(t *testing.T) {
	const third = (1<<64 - 1) / 3 // 3 times this is 2 times the greatest int64, and 1
	list := []three{{third, 3, 2, most}, {3, third, 2, most}}
	checkThree(t, "Frac", num.Frac, list)
	checkThree(t, "FracUp", num.FracUp, list)
}

// byBig is Frac's or FracUp's answer, by numbers of any size.
func byBig(n, up, down int64, more bool) int64 {
	if n < 0 || up < 0 || down <= 0 {
		return 0
	}
	product := new(big.Int).Mul(big.NewInt(n), big.NewInt(up))
	whole, left := new(big.Int).QuoRem(product, big.NewInt(down), new(big.Int))
	if more && left.Sign() > 0 {
		whole.Add(whole, big.NewInt(1))
	}
	return within(whole)
}

// P1.2
func TestPartsByBig(t *testing.T) {
	list := edges()
	for _, n := range list {
		for _, up := range list {
			for _, down := range list {
				if got, want := num.Frac(n, up, down), byBig(n, up, down, false); got != want {
					t.Fatalf("Frac(%d, %d, %d) = %d, want %d", n, up, down, got, want)
				}
				if got, want := num.FracUp(n, up, down), byBig(n, up, down, true); got != want {
					t.Fatalf("FracUp(%d, %d, %d) = %d, want %d", n, up, down, got, want)
				}
			}
		}
	}
}

// P1.2
func TestClamp(t *testing.T) {
	checkThree(t, "Clamp", num.Clamp, []three{
		{3, 1, 5, 3}, {9, 1, 5, 5}, {0, 1, 5, 1}, {1, 1, 5, 1}, {5, 1, 5, 5}, {-3, -5, -1, -3}, {7, 4, 4, 4},
		{most, least, most, most}, {least, least, most, least}, {most, least, 0, 0}, {least, 0, most, 0},
		// the wrong way round: lo holds
		{3, 7, 5, 7}, {6, 7, 5, 7}, {9, 7, 5, 7}, {0, most, least, most},
	})
}
