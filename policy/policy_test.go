package policy_test

import (
	"math"
	"math/big"
	"math/rand"
	"slices"
	"testing"

	"greenhouse/cast"
	"greenhouse/histo"
	"greenhouse/policy"
	"greenhouse/ring"
)

const most = int64(1) << 40

var fixed = policy.Window{How: policy.Fixed, Pre: 0, End: 10}

func byCounts(pre, end int64) policy.Window {
	return policy.Window{How: policy.Hist, Pre: pre, End: end}
}

func byNext(pre, end int64) policy.Window {
	return policy.Window{How: policy.Cast, Pre: pre, End: end}
}

// put hands idle times to both, as the layers above do.
func put(h *histo.Histo, r *ring.Ring, idle ...int64) {
	for _, x := range idle {
		h.Add(x)
		r.Push(x)
	}
}

func of(idle ...int64) (*histo.Histo, *ring.Ring) {
	h, r := histo.New(), ring.New()
	put(h, r, idle...)
	return h, r
}

// upTo is the numbers 0, 1, .. below n.
func upTo(n int64) []int64 {
	list := make([]int64, n)
	for i := range list {
		list[i] = int64(i)
	}
	return list
}

// times is x, so many times.
func times(x int64, n int) []int64 { return slices.Repeat([]int64{x}, n) }

func join(lists ...[]int64) []int64 { return slices.Concat(lists...) }

// model is P7.1 by its words, its parts by numbers of any size.
func model(h *histo.Histo, r *ring.Ring) policy.Window {
	in, over := h.In(), h.Over()
	few := in+over < 4
	next := over+over > in+over
	if !few && next {
		n := cast.Next(r.List())
		pre, _ := part(n, 85, 100)
		end, left := part(n, 115, 100)
		if left {
			end++
		}
		if end < pre+1 {
			end = pre + 1
		}
		return byNext(pre, end)
	}
	if few || !h.Spread() {
		return fixed
	}
	first, _ := h.Cut(5)
	last, _ := h.Cut(99)
	pre, _ := part(int64(first), 9, 10)
	end, left := part(int64(last)+1, 11, 10)
	if left {
		end++
	}
	return byCounts(pre, end)
}

// part is n times up by down, and whether something is left.
func part(n, up, down int64) (int64, bool) {
	product := new(big.Int).Mul(big.NewInt(n), big.NewInt(up))
	whole, left := new(big.Int).QuoRem(product, big.NewInt(down), new(big.Int))
	return whole.Int64(), left.Sign() != 0
}

// agree holds the answer against the window that is wanted, against P7.2, and
// sees that the call turned nothing and answers the same anew.
func agree(t *testing.T, name string, h *histo.Histo, r *ring.Ring, want policy.Window) {
	t.Helper()
	counts, over, list := h.Counts(), h.Over(), r.List()
	got := policy.Of(h, r)
	if got != want {
		t.Errorf("%s: Of = %v, want %v", name, got, want)
	}
	if got.Pre < 0 || got.End <= got.Pre {
		t.Errorf("%s: Of = %v is no window", name, got)
	}
	if again := policy.Of(h, r); again != got {
		t.Errorf("%s: Of = %v, and %v the second time", name, got, again)
	}
	if !slices.Equal(h.Counts(), counts) || h.Over() != over || !slices.Equal(r.List(), list) {
		t.Errorf("%s: Of changed what it was handed", name)
	}
}

// check holds the model against the wanted window too, so that none is a slip.
func check(t *testing.T, name string, idle []int64, want policy.Window) {
	t.Helper()
	h, r := of(idle...)
	agree(t, name, h, r, want)
	if got := model(h, r); got != want {
		t.Errorf("%s: the model is %v, want %v", name, got, want)
	}
}

// P7.1

func TestTheWaysAreInOrder(t *testing.T) {
	if policy.Fixed != 0 || policy.Hist != 1 || policy.Cast != 2 || policy.Few != 4 {
		t.Error(policy.Fixed, policy.Hist, policy.Cast, policy.Few)
	}
}

func TestOrdinaryWindows(t *testing.T) {
	check(t, "four of 20", times(20, 4), byCounts(18, 24))
	check(t, "four of 300", times(300, 4), byNext(255, 345))
	check(t, "four that grow", []int64{300, 400, 500, 600}, byNext(595, 805))
	check(t, "a few about 30", []int64{28, 30, 31, 30, 29, 33}, byCounts(25, 38))
	check(t, "many that differ", upTo(200), fixed)
}

func TestFewIdleTimesAreFixed(t *testing.T) {
	check(t, "none", nil, fixed)
	for _, x := range []int64{0, 1, 20, 239, 240, 300, most, math.MaxInt64} {
		for n := range 4 {
			check(t, "fewer than four", times(x, n), fixed)
		}
	}
	check(t, "three, in and over", []int64{20, 300, 20}, fixed)
	check(t, "three, one in", []int64{20, 300, 300}, fixed)
	check(t, "four in", times(20, 4), byCounts(18, 24))
	check(t, "four over", times(300, 4), byNext(255, 345))
	check(t, "four of both", []int64{300, 20, 20, 20}, byCounts(18, 24))
	check(t, "three and one that isn't counted", []int64{20, 20, -1, 20}, fixed)
	check(t, "three over and one that isn't counted", []int64{300, 300, -1, 300}, fixed)
	check(t, "four and one that isn't counted", []int64{20, 20, -1, 20, 20}, byCounts(18, 24))
}

func TestTwiceOverAgainstBoth(t *testing.T) {
	check(t, "2 of 4", []int64{300, 300, 20, 20}, byCounts(18, 24))
	check(t, "2 of 5", []int64{300, 300, 20, 20, 20}, byCounts(18, 24))
	// Of 20, 300, 300, 300 the next one is 440.
	check(t, "3 of 4", []int64{20, 300, 300, 300}, byNext(374, 506))
	// Of 20, 20, 300, 300, 300 the next one is 440, too.
	check(t, "3 of 5", []int64{20, 20, 300, 300, 300}, byNext(374, 506))
	check(t, "3 of 6", []int64{300, 300, 300, 20, 20, 20}, byCounts(18, 24))
	check(t, "50 of 100", join(times(300, 50), times(20, 50)), byCounts(18, 24))
	check(t, "51 of 101", join(times(20, 50), times(300, 51)), byNext(255, 345))
	check(t, "50 of 101", join(times(300, 50), times(20, 51)), byCounts(18, 24))
	// 239 is the last one that is counted one by one.
	check(t, "239s", times(239, 4), byCounts(215, 264))
	check(t, "240s", times(240, 4), byNext(204, 276))
	check(t, "all in all, over comes first", times(math.MaxInt64, 4000), byNext(934584883609, 1264438371943))
}

func TestSpreadAgainstNot(t *testing.T) {
	// Of 48 that differ the Cut of 5 is 2, of 99 it is 47.
	check(t, "just spread", upTo(48), byCounts(1, 53))
	check(t, "just not", upTo(49), fixed)
	check(t, "just spread, just as many over", join(times(300, 48), upTo(48)), byCounts(1, 53))
	check(t, "just not, just as many over", join(times(300, 49), upTo(49)), fixed)
	// Over is asked ahead of Spread: both of these are Cast.
	check(t, "just spread, just more over", join(upTo(48), times(300, 49)), byNext(255, 345))
	check(t, "just not, just more over", join(upTo(49), times(300, 50)), byNext(255, 345))
	check(t, "all bins alike", join(upTo(240), upTo(240)), fixed)
}

func TestTheCutsOf5And99(t *testing.T) {
	check(t, "5 of 100 ahead", join(times(10, 5), times(50, 95)), byCounts(9, 57))
	check(t, "4 of 100 ahead", join(times(10, 4), times(50, 96)), byCounts(45, 57))
	check(t, "1 of 100 behind", join(times(10, 99), times(50, 1)), byCounts(9, 13))
	check(t, "2 of 100 behind", join(times(10, 98), times(50, 2)), byCounts(9, 57))
	check(t, "those over are behind no cut", join(times(300, 100), times(10, 99), times(50, 1)), byCounts(9, 13))
}

func TestCutsOf0(t *testing.T) {
	check(t, "0 alone", times(0, 4), byCounts(0, 2))
	check(t, "0 alone, many", times(0, 3000), byCounts(0, 2))
	check(t, "0 and 1", []int64{0, 0, 1, 1}, byCounts(0, 3))
	check(t, "0 and 239", []int64{0, 239, 0, 239}, byCounts(0, 264))
	check(t, "1 alone", times(1, 4), byCounts(0, 3))
}

func TestTenths(t *testing.T) {
	for _, c := range []struct{ x, pre, end int64 }{
		{2, 1, 4},       // 1.8, 3.3
		{8, 7, 10},      // 7.2, 9.9
		{9, 8, 11},      // 8.1, 11
		{10, 9, 13},     // 9, 12.1
		{11, 9, 14},     // 9.9, 13.2
		{19, 17, 22},    // 17.1, 22
		{20, 18, 24},    // 18, 23.1
		{228, 205, 252}, // 205.2, 251.9
		{229, 206, 253}, // 206.1, 253
		{230, 207, 255}, // 207, 254.1
		{239, 215, 264}, // 215.1, 264
	} {
		check(t, "tenths", times(c.x, 4), byCounts(c.pre, c.end))
	}
}

func TestHundredths(t *testing.T) {
	for _, c := range []struct{ x, pre, end int64 }{
		{240, 204, 276}, // 204, 276
		{241, 204, 278}, // 204.85, 277.15
		{246, 209, 283}, // 209.1, 282.9
		{259, 220, 298}, // 220.15, 297.85
		{260, 221, 299}, // 221, 299
		{261, 221, 301}, // 221.85, 300.15
		{500, 425, 575}, // 425, 575
		{501, 425, 577}, // 425.85, 576.15
	} {
		check(t, "hundredths", times(c.x, 4), byNext(c.pre, c.end))
	}
	// Four that fall by so much that the next one is small: it is 360 less half of the first one.
	for _, c := range []struct{ first, pre, end int64 }{
		{718, 0, 2},   // of 1: 0.85, 1.15
		{716, 1, 3},   // of 2: 1.7, 2.3
		{708, 5, 7},   // of 6: 5.1, 6.9
		{706, 5, 9},   // of 7: 5.95, 8.05
		{680, 17, 23}, // of 20: 17, 23
	} {
		check(t, "hundredths of little", []int64{c.first, 240, 240, 240}, byNext(c.pre, c.end))
	}
}

func TestANextOneOf0(t *testing.T) {
	check(t, "just 0", []int64{1000, 750, 500, 250}, byNext(0, 1))
	check(t, "less than 1", []int64{719, 240, 240, 240}, byNext(0, 1))
	check(t, "below 0", []int64{4000, 3000, 2000, 240}, byNext(0, 1))
	check(t, "far below 0", []int64{most, most, most, most, 0, 0}, byNext(0, 1))
}

func TestANextOneOfMaxTime(t *testing.T) {
	greatest := byNext(934584883609, 1264438371943) // 85 and 115 hundredths: .6 and .4 are left
	check(t, "all MaxTime", times(most, 4), greatest)
	check(t, "all above it", times(most+1, 4), greatest)
	check(t, "all the greatest", times(math.MaxInt64, 20), greatest)
	check(t, "growing beyond it", []int64{240, 240, most, most}, greatest)
	check(t, "one less", times(most-1, 4), byNext(934584883608, 1264438371942))
}

func TestTheRingAloneTellsTheNextOne(t *testing.T) {
	check(t, "the last eight", join(times(5000, 40), times(300, 8)), byNext(255, 345))
	check(t, "the last eight are short ones", join(times(300, 9), times(20, 8)), byNext(17, 23))
	// Counts say Cast, and the ring has something else, or nothing.
	h, _ := of(times(300, 4)...)
	agree(t, "an empty ring", h, ring.New(), byNext(0, 1))
	_, r := of(times(100, 1)...)
	agree(t, "a ring of one", h, r, byNext(85, 115))
	// Counts say nothing of Cast, and the ring isn't asked.
	_, long := of(times(300, 8)...)
	agree(t, "nothing counted", histo.New(), long, fixed)
	h, _ = of(times(20, 4)...)
	agree(t, "all counted one by one", h, long, byCounts(18, 24))
	h, _ = of(upTo(49)...)
	agree(t, "counts that differ", h, long, fixed)
}

func TestBehindTheHalving(t *testing.T) {
	// 41 that came once are more than 1 of 100, and gone behind the halving.
	h, r := of(join(upTo(141)[100:], times(20, 4054))...)
	agree(t, "just ahead of it", h, r, byCounts(18, 112))
	put(h, r, 20)
	agree(t, "the odd ones are gone", h, r, byCounts(18, 24))

	// Half were over; behind the halving they are just more.
	h, r = of(join(times(300, 2048), times(18, 683), times(19, 683), times(20, 681))...)
	agree(t, "one more over", h, r, byNext(17, 23))
	h, r = of(join(times(18, 683), times(19, 683), times(20, 682), times(300, 2047))...)
	agree(t, "one more in", h, r, byCounts(16, 24))
	put(h, r, 300)
	agree(t, "just more over", h, r, byNext(255, 345))

	// More were over, and are behind the halving; of the ring, 300 seven times and 20, the next one is 160.
	h, r = of(join(times(20, 2046), times(300, 2049))...)
	agree(t, "more over", h, r, byNext(255, 345))
	put(h, r, 20)
	agree(t, "1023 in, 1024 over", h, r, byNext(136, 184))
	put(h, r, 20)
	agree(t, "1024 in, 1024 over", h, r, byCounts(18, 24))

	h, r = of(join(upTo(240), times(300, 4096-240))...)
	agree(t, "none is left in", h, r, byNext(255, 345))
	h, r = of(times(300, 4096)...)
	put(h, r, times(20, 2046)...)
	agree(t, "2046 in, 2048 over", h, r, byNext(17, 23))
	put(h, r, 20)
	agree(t, "2047 in, 2048 over", h, r, byNext(17, 23))
	put(h, r, 20)
	agree(t, "1024 in, 1024 over anew", h, r, byCounts(18, 24))
}

func TestWrongIdleTimes(t *testing.T) {
	check(t, "below 0 alone", times(-1, 100), fixed)
	check(t, "the least alone", times(math.MinInt64, 100), fixed)
	check(t, "below 0 among counts", []int64{-1, 20, math.MinInt64, 20, 20, 20, -300}, byCounts(18, 24))
	// They are in the ring, as 0: of 300 four times and 0 the next one is 60.
	check(t, "below 0 behind long ones", []int64{300, 300, 300, 300, -1}, byNext(51, 69))
	check(t, "the least behind long ones", []int64{300, 300, 300, 300, math.MinInt64}, byNext(51, 69))
	check(t, "the ring has none but those", join(times(300, 4), times(-5, 8)), byNext(0, 1))
	check(t, "the greatest and the least", []int64{math.MaxInt64, math.MinInt64, math.MaxInt64, math.MaxInt64, math.MaxInt64}, byNext(934584883609, 1264438371943))
	check(t, "a number whose lowest 32 bits are those of a bin", times(1<<32+20, 4), byNext(3650722218, 4939212414))
}

// P7.2, and P7.1 by the model

func TestEveryShortList(t *testing.T) {
	kinds := []int64{-1, 0, 1, 20, 239, 240, 700, math.MaxInt64}
	list := make([]int64, 5)
	for code := range 8 * 8 * 8 * 8 * 8 {
		for i := range list {
			list[i] = kinds[code%8]
			code /= 8
		}
		h, r := of(list...)
		agree(t, "a short list", h, r, model(h, r))
		if t.Failed() {
			t.Fatal(list)
		}
	}
}

func TestAnyIdleTimes(t *testing.T) {
	random := rand.New(rand.NewSource(7))
	kinds := []func() int64{
		func() int64 { return random.Int63n(4) },
		func() int64 { return random.Int63n(50) },
		func() int64 { return random.Int63n(240) },
		func() int64 { return random.Int63n(480) },
		func() int64 { return random.Int63n(500) - 20 },
		func() int64 { return most - random.Int63n(9) + 2 },
		func() int64 { return int64(random.Uint64()) },
		func() int64 { return int64(random.Uint64()) >> random.Intn(64) },
	}
	seen := map[policy.How]int{}
	for _, kind := range kinds {
		h, r := of()
		for i := range 9000 {
			put(h, r, kind())
			if i > 100 && i%7 != 0 {
				continue
			}
			agree(t, "any", h, r, model(h, r))
			seen[policy.Of(h, r).How]++
			if t.Failed() {
				t.Fatal(h.Counts(), h.Over(), r.List())
			}
		}
	}
	for _, how := range []policy.How{policy.Fixed, policy.Hist, policy.Cast} {
		if seen[how] < 100 {
			t.Errorf("the way %d was seen %d times alone", how, seen[how])
		}
	}
}
