package ratio_test

import (
	"math"
	"math/big"
	"testing"

	"greenhouse/ratio"
)

const most = math.MaxUint64

// edges is numbers around 0, the bound, and where products of two leave 64 bits.
func edges() []uint64 {
	list := []uint64{0, 1, 2, 3, 4, 5, 7, 12, 1000}
	for _, middle := range []uint64{1 << 32, 1 << 63, most / 3, most - 2} {
		list = append(list, middle-2, middle-1, middle, middle+1, middle+2)
	}
	return list
}

func wide(n uint64) *big.Int { return new(big.Int).SetUint64(n) }

// P2.1
func TestRight(t *testing.T) {
	for _, r := range []ratio.Ratio{{Num: 1, Den: 3}, {Num: 0, Den: 1}, {Num: most, Den: most}, {Num: 0, Den: 1 << 63}} {
		if !r.Right() {
			t.Errorf("%v isn't Right", r)
		}
	}
	for _, r := range []ratio.Ratio{{}, {Num: 9}, {Num: most}} {
		if r.Right() {
			t.Errorf("%v is Right", r)
		}
	}
}

// P2.1
func TestCompare(t *testing.T) {
	for _, c := range []struct {
		a, b ratio.Ratio
		want int
	}{
		{ratio.Ratio{Num: 1, Den: 3}, ratio.Ratio{Num: 2, Den: 5}, -1},
		{ratio.Ratio{Num: 1, Den: 3}, ratio.Ratio{Num: 4, Den: 12}, 0},
		{ratio.Ratio{Num: 0, Den: 3}, ratio.Ratio{Num: 0, Den: 7}, 0},
		{ratio.Ratio{Num: 0, Den: 3}, ratio.Ratio{Num: 1, Den: most}, -1},
		// whole parts are the same, only what is left differs
		{ratio.Ratio{Num: 7, Den: 3}, ratio.Ratio{Num: 8, Den: 3}, -1},
		// the products differ in their upper 64 bits, and the lower ones say the opposite
		{ratio.Ratio{Num: 3, Den: 1 << 63}, ratio.Ratio{Num: 1 << 62, Den: 8}, -1},
		{ratio.Ratio{Num: 1 << 32, Den: 1}, ratio.Ratio{Num: 1, Den: 1 << 32}, 1},
		{ratio.Ratio{Num: 1 << 63, Den: 1}, ratio.Ratio{Num: 5, Den: 2}, 1},
		// the products differ in their lower 64 bits alone
		{ratio.Ratio{Num: most - 1, Den: most}, ratio.Ratio{Num: most - 2, Den: most - 1}, 1},
		{ratio.Ratio{Num: most, Den: most - 1}, ratio.Ratio{Num: most - 1, Den: most - 2}, -1},
		{ratio.Ratio{Num: most, Den: most}, ratio.Ratio{Num: 1, Den: 1}, 0},
		{ratio.Ratio{Num: most, Den: 1}, ratio.Ratio{Num: 1, Den: most}, 1},
	} {
		if got := c.a.Compare(c.b); got != c.want {
			t.Errorf("%v against %v is %d, want %d", c.a, c.b, got, c.want)
		}
		if got := c.b.Compare(c.a); got != -c.want {
			t.Errorf("%v against %v is %d, want %d", c.b, c.a, got, -c.want)
		}
	}
}

// allRatios is every ratio of the edges, with a Den of 0 among them.
func allRatios() []ratio.Ratio {
	var list []ratio.Ratio
	for _, up := range edges() {
		for _, down := range edges() {
			list = append(list, ratio.Ratio{Num: up, Den: down})
		}
	}
	return list
}

// P2.1; of a Den of 0 only that Compare ends, and doesn't panic.
func TestCompareByBig(t *testing.T) {
	for _, a := range allRatios() {
		for _, b := range allRatios() {
			got := a.Compare(b)
			if !a.Right() || !b.Right() {
				continue
			}
			want := new(big.Int).Mul(wide(a.Num), wide(b.Den)).Cmp(new(big.Int).Mul(wide(b.Num), wide(a.Den)))
			if got != want {
				t.Fatalf("%v against %v is %d, want %d", a, b, got, want)
			}
		}
	}
}

// P2.1
func TestFloor(t *testing.T) {
	for _, c := range []struct {
		r    ratio.Ratio
		want uint64
	}{
		{ratio.Ratio{Num: 17, Den: 5}, 3}, {ratio.Ratio{Num: 15, Den: 5}, 3}, {ratio.Ratio{Num: 14, Den: 5}, 2},
		{ratio.Ratio{Num: 0, Den: 5}, 0}, {ratio.Ratio{Num: 4, Den: 5}, 0},
		{ratio.Ratio{Num: most, Den: 1}, most}, {ratio.Ratio{Num: most, Den: 2}, 1<<63 - 1}, {ratio.Ratio{Num: most - 1, Den: most}, 0}, {ratio.Ratio{Num: most, Den: most}, 1},
		{ratio.Ratio{}, 0}, {ratio.Ratio{Num: 9}, 0}, {ratio.Ratio{Num: most}, 0},
	} {
		if got := c.r.Floor(); got != c.want {
			t.Errorf("Floor of %v is %d, want %d", c.r, got, c.want)
		}
	}
}

// P2.2
func TestAbove(t *testing.T) {
	for _, c := range []struct{ n, up, down, want uint64 }{
		{2, 7, 5, 17}, {0, 0, 1, 0}, {0, 7, 5, 7}, {3, 0, 5, 15}, {0, most, most, most},
		// up to 2^64 - 1
		{most, 0, 1, most}, {most - 1, 1, 1, most}, {1 << 63, most - 1<<63, 1, most}, {1<<63 - 1, 1, 2, most}, {1 << 32, 1<<32 - 1, 1<<32 - 1, most}, {1, 0, most, most},
	} {
		got, ok := ratio.Above(c.n, c.up, c.down)
		if !ok || got != (ratio.Ratio{Num: c.want, Den: c.down}) {
			t.Errorf("Above(%d, %d, %d) = %v, %v, want %d by %d", c.n, c.up, c.down, got, ok, c.want, c.down)
		}
	}
	for _, c := range []struct{ n, up, down uint64 }{
		// just 2^64: by the sum, and by the product
		{most, 1, 1}, {1<<63 - 1, 2, 2}, {1, 1, most}, {1 << 32, 1 << 32, 1<<32 - 1}, {1 << 63, 0, 2}, {1 << 32, 0, 1 << 32},
		// beyond it
		{1 << 63, 1, 2}, {most, most, 1}, {most, 0, most}, {most, most, most},
		{0, 0, 0}, {2, 7, 0}, {most, most, 0},
	} {
		if got, ok := ratio.Above(c.n, c.up, c.down); ok || got != (ratio.Ratio{}) {
			t.Errorf("Above(%d, %d, %d) = %v, %v, want zero and false", c.n, c.up, c.down, got, ok)
		}
	}
}

// P2.2
func TestAboveByBig(t *testing.T) {
	for _, n := range edges() {
		for _, up := range edges() {
			for _, down := range edges() {
				sum := new(big.Int).Mul(wide(n), wide(down))
				sum.Add(sum, wide(up))
				fits := down > 0 && sum.IsUint64()
				var want ratio.Ratio
				if fits {
					want = ratio.Ratio{Num: sum.Uint64(), Den: down}
				}
				if got, ok := ratio.Above(n, up, down); ok != fits || got != want {
					t.Fatalf("Above(%d, %d, %d) = %v, %v, want %v, %v", n, up, down, got, ok, want, fits)
				}
			}
		}
	}
}
