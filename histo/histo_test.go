package histo_test

import (
	"math"
	"math/big"
	"math/rand"
	"slices"
	"testing"

	"greenhouse/api"
	"greenhouse/histo"
)

// of is a Histo of idle times.
func of(idle ...int64) *histo.Histo {
	h := histo.New()
	addAll(h, idle)
	return h
}

func addAll(h *histo.Histo, idle []int64) {
	for _, x := range idle {
		h.Add(x)
	}
}

func addMany(h *histo.Histo, x int64, times int) {
	for range times {
		h.Add(x)
	}
}

// ofBins is a Histo whose first bins have so many.
func ofBins(counts ...int) *histo.Histo {
	h := histo.New()
	for i, n := range counts {
		addMany(h, int64(i), n)
	}
	return h
}

// want is what a Histo must hold; bins that it doesn't name have none.
type want struct {
	bins map[int]int
	over int
}

func (w want) counts() []int {
	out := make([]int, 240)
	for i, n := range w.bins {
		out[i] = n
	}
	return out
}

func check(t *testing.T, name string, h *histo.Histo, w want) {
	t.Helper()
	counts, in := w.counts(), 0
	for i, n := range counts {
		in += n
		if got := h.Bin(i); got != n {
			t.Errorf("%s: Bin(%d) = %d, want %d", name, i, got, n)
		}
	}
	if got := h.Counts(); !slices.Equal(got, counts) {
		t.Errorf("%s: Counts() = %v, want %v", name, got, counts)
	}
	if got := h.In(); got != in {
		t.Errorf("%s: In() = %d, want %d", name, got, in)
	}
	if got := h.Over(); got != w.over {
		t.Errorf("%s: Over() = %d, want %d", name, got, w.over)
	}
}

// P4.1

func TestNewCountsNothing(t *testing.T) {
	check(t, "New", histo.New(), want{})
}

func TestAddCountsInTheBinOfThatNumber(t *testing.T) {
	check(t, "3, 3, 9", of(3, 3, 9), want{bins: map[int]int{3: 2, 9: 1}})
	h := histo.New()
	w := want{bins: map[int]int{}}
	for i := range 240 {
		addMany(h, int64(i), i%5)
		w.bins[i] = i % 5
	}
	check(t, "every bin", h, w)
}

func TestAddAtTheEdgesOfTheBins(t *testing.T) {
	for _, c := range []struct {
		name string
		idle int64
		want want
	}{
		{"least", math.MinInt64, want{}},
		{"far below 0", -240, want{}},
		{"below 0", -1, want{}},
		{"0", 0, want{bins: map[int]int{0: 1}}},
		{"239", 239, want{bins: map[int]int{239: 1}}},
		{"240", 240, want{over: 1}},
		{"241", 241, want{over: 1}},
		{"a number whose lowest 32 bits are those of a bin", 1<<32 + 3, want{over: 1}},
		{"greatest", math.MaxInt64, want{over: 1}},
	} {
		check(t, c.name, of(c.idle), c.want)
	}
}

func TestBinsThatThereAreNoneOf(t *testing.T) {
	h := of(0, 0, 3, 239, 240, 241, 500)
	for _, i := range []int{-1, -3, -240, 240, 241, 500, math.MinInt, math.MaxInt} {
		if got := h.Bin(i); got != 0 {
			t.Errorf("Bin(%d) = %d, want 0", i, got)
		}
	}
}

func TestOneHistoIsNotAnother(t *testing.T) {
	a, b := of(3, 300), of(4)
	a.Add(5)
	check(t, "a", a, want{bins: map[int]int{3: 1, 5: 1}, over: 1})
	check(t, "b", b, want{bins: map[int]int{4: 1}})
}

func TestNothingIsHalvedBelowMaxCount(t *testing.T) {
	h := histo.New()
	addMany(h, 7, 4095)
	check(t, "in alone", h, want{bins: map[int]int{7: 4095}})
	h = histo.New()
	addMany(h, 240, 4095)
	check(t, "over alone", h, want{over: 4095})
	h = histo.New()
	addMany(h, 7, 4000)
	addMany(h, 240, 95)
	check(t, "both", h, want{bins: map[int]int{7: 4000}, over: 95})
}

func TestAllIsHalvedAtMaxCount(t *testing.T) {
	for _, c := range []struct {
		name       string
		bins       map[int]int
		over       int
		last       int64
		wantBefore want
		wantBehind want
	}{
		{"even", map[int]int{7: 4095}, 0, 7,
			want{bins: map[int]int{7: 4095}}, want{bins: map[int]int{7: 2048}}},
		{"odd bins", map[int]int{0: 3, 1: 1, 2: 5, 239: 4086}, 0, 239,
			want{bins: map[int]int{0: 3, 1: 1, 2: 5, 239: 4086}}, want{bins: map[int]int{0: 1, 2: 2, 239: 2043}}},
		{"odd over", map[int]int{5: 4092}, 3, 5,
			want{bins: map[int]int{5: 4092}, over: 3}, want{bins: map[int]int{5: 2046}, over: 1}},
		{"the last one is over", map[int]int{5: 4091}, 4, 240,
			want{bins: map[int]int{5: 4091}, over: 4}, want{bins: map[int]int{5: 2045}, over: 2}},
		{"over alone", nil, 4095, math.MaxInt64,
			want{over: 4095}, want{over: 2048}},
		{"over but for one", map[int]int{5: 1}, 4094, 1000,
			want{bins: map[int]int{5: 1}, over: 4094}, want{over: 2047}},
	} {
		h := histo.New()
		for i, n := range c.bins {
			addMany(h, int64(i), n)
		}
		addMany(h, 240, c.over)
		check(t, c.name+", before", h, c.wantBefore)
		h.Add(-1)
		check(t, c.name+", one below 0", h, c.wantBefore)
		h.Add(c.last)
		check(t, c.name+", behind", h, c.wantBehind)
	}
}

func TestBinsOfOneAreGoneBehindTheHalving(t *testing.T) {
	h := histo.New()
	for i := range 240 {
		h.Add(int64(i))
	}
	addMany(h, 300, 4096-240)
	check(t, "bins of one", h, want{over: 1928})
}

func TestCountingGoesOnBehindTheHalving(t *testing.T) {
	h := histo.New()
	addMany(h, 7, 4091)
	addAll(h, []int64{3, 3, 9, 240, 239})
	check(t, "halved", h, want{bins: map[int]int{7: 2045, 3: 1}})
	addAll(h, []int64{9, 240, -1})
	check(t, "behind it", h, want{bins: map[int]int{7: 2045, 3: 1, 9: 1}, over: 1})
	addMany(h, 12, 4095-2048)
	check(t, "just below it anew", h, want{bins: map[int]int{7: 2045, 3: 1, 9: 1, 12: 2047}, over: 1})
	h.Add(12)
	check(t, "halved anew", h, want{bins: map[int]int{7: 1022, 12: 1024}})
}

func TestCountsIsNewMemory(t *testing.T) {
	h := of(3, 3, 9)
	a, b := h.Counts(), h.Counts()
	a[3], a[5] = 70, 80
	if b[3] != 2 || b[5] != 0 {
		t.Error("two answers share memory")
	}
	check(t, "written into an answer", h, want{bins: map[int]int{3: 2, 9: 1}})
	h.Add(9)
	if b[9] != 1 {
		t.Error("an answer turned with an Add")
	}
}

// P4.2

func TestCut(t *testing.T) {
	for _, c := range []struct {
		name          string
		h             *histo.Histo
		percent, want int
	}{
		{"example", of(3, 3, 9), 50, 3},
		{"example", of(3, 3, 9), 99, 9},
		{"2 of 3 are more than 66 percent", of(3, 3, 9), 66, 3},
		{"and fewer than 67", of(3, 3, 9), 67, 9},
		{"of four, one", of(1, 2, 3, 4), 25, 1},
		{"of four, more than one", of(1, 2, 3, 4), 26, 2},
		{"of four, three", of(1, 2, 3, 4), 75, 3},
		{"of four, more than three", of(1, 2, 3, 4), 76, 4},
		{"0 percent begins where there is one", of(20, 30), 0, 20},
		{"1 percent", of(20, 30), 1, 20},
		{"below 0", of(20, 30), -1, 20},
		{"far below 0", of(20, 30), math.MinInt, 20},
		{"so far below 0 that three times it wraps round to above 0", of(20, 20, 30), math.MinInt / 2, 20},
		{"so far above 100 that three times it wraps round to below 0", of(20, 20, 30), math.MaxInt / 2, 30},
		{"99 percent", of(20, 30), 99, 30},
		{"100 percent", of(20, 30), 100, 30},
		{"above 100", of(20, 30), 101, 30},
		{"far above 100", of(20, 30), math.MaxInt, 30},
		{"bins without any between", of(0, 100, 239), 33, 0},
		{"bins without any between", of(0, 100, 239), 34, 100},
		{"bins without any between", of(0, 100, 239), 66, 100},
		{"bins without any between", of(0, 100, 239), 67, 239},
		{"the first bin", of(0), 0, 0},
		{"the first bin", of(0), 100, 0},
		{"the last bin", of(239), 0, 239},
		{"the last bin", of(239), 100, 239},
		{"those over don't count", of(3, 9, 240, 240, 240, 1000), 50, 3},
		{"those over don't count", of(3, 9, 240, 240, 240, 1000), 100, 9},
	} {
		if got, ok := c.h.Cut(c.percent); got != c.want || !ok {
			t.Errorf("%s: Cut(%d) = %d, %v, want %d, true", c.name, c.percent, got, ok, c.want)
		}
	}
}

func TestCutOfNone(t *testing.T) {
	gone := of(5)
	addMany(gone, 240, 4095)
	for name, h := range map[string]*histo.Histo{
		"nothing":                 histo.New(),
		"below 0 alone":           of(-1, -2),
		"over alone":              of(240, 1000),
		"the only one was halved": gone,
	} {
		for _, percent := range []int{math.MinInt, -1, 0, 1, 50, 100, 101, math.MaxInt} {
			if got, ok := h.Cut(percent); got != 0 || ok {
				t.Errorf("%s: Cut(%d) = %d, %v, want 0, false", name, percent, got, ok)
			}
		}
	}
}

func TestSpread(t *testing.T) {
	ones := func(n int) []int { return slices.Repeat([]int{1}, n) }
	full := slices.Repeat([]int{17}, 240)
	for _, c := range []struct {
		name string
		h    *histo.Histo
		want bool
	}{
		{"nothing", histo.New(), false},
		{"below 0 alone", of(-1), false},
		{"over alone", of(240, 240), false},
		{"one", of(5), true},
		{"one of the last bin", of(239), true},
		{"a few", of(3, 3, 9), true},
		{"240 times 48 is 5 times the square of 48", ofBins(ones(48)...), true},
		{"240 times 49 is less than 5 times the square of 49", ofBins(ones(49)...), false},
		{"48 of twos are as far", ofBins(slices.Repeat([]int{2}, 48)...), true},
		{"48 of eighty-fives are as far", ofBins(slices.Repeat([]int{85}, 48)...), true},
		{"240 times 52 is 20 less than 5 times the square of 50", ofBins(append(ones(48), 2)...), false},
		{"240 times 63 is 5 less than 5 times the square of 55", ofBins(append(ones(47), 2, 2, 2, 2)...), false},
		{"240 times 57 is more than 5 times the square of 51", ofBins(append(ones(48), 3)...), true},
		{"all bins alike", ofBins(full...), false},
		{"one bin of 4095", ofBins(4095), true},
	} {
		if got := c.h.Spread(); got != c.want {
			t.Errorf("%s: Spread() = %v, want %v", c.name, got, c.want)
		}
	}
}

func TestThoseOverDoNotTurnSpread(t *testing.T) {
	at := ofBins(slices.Repeat([]int{1}, 48)...)
	addMany(at, 240, 4000)
	if !at.Spread() {
		t.Error("those over count against what is gathered")
	}
	below := ofBins(slices.Repeat([]int{1}, 49)...)
	addMany(below, 240, 4000)
	if below.Spread() {
		t.Error("those over count for what is gathered")
	}
}

// model tells P4.1 and P4.2 anew, straight from the document's words, by numbers of any size.
type model struct {
	bins map[int64]int64
	over int64
}

func (m *model) in() (n int64) {
	for _, c := range m.bins {
		n += c
	}
	return n
}

func (m *model) add(x int64) {
	switch {
	case x < 0:
		return
	case x < api.Bins:
		m.bins[x]++
	default:
		m.over++
	}
	if m.in()+m.over == api.MaxCount {
		for i := range m.bins {
			m.bins[i] /= 2
		}
		m.over /= 2
	}
}

func (m *model) cut(percent int) (int, bool) {
	share := int64(min(max(percent, 0), 100))
	for n := range int64(api.Bins) {
		var upTo int64
		for i, c := range m.bins {
			if i <= n {
				upTo += c
			}
		}
		if upTo >= 1 && 100*upTo >= share*m.in() {
			return int(n), true
		}
	}
	return 0, false
}

// spread goes by variance and mean, as the document says in parentheses.
func (m *model) spread() bool {
	if m.in() == 0 {
		return false
	}
	mean := big.NewRat(m.in(), api.Bins)
	sum := new(big.Rat)
	for i := range int64(api.Bins) {
		far := new(big.Rat).Sub(new(big.Rat).SetInt64(m.bins[i]), mean)
		sum.Add(sum, far.Mul(far, far))
	}
	variance := sum.Quo(sum, big.NewRat(api.Bins, 1))
	square := new(big.Rat).Mul(mean, mean)
	return variance.Cmp(square.Mul(square, big.NewRat(4, 1))) >= 0
}

func agree(t *testing.T, h *histo.Histo, m *model) {
	t.Helper()
	w := want{bins: map[int]int{}, over: int(m.over)}
	for i, n := range m.bins {
		w.bins[int(i)] = int(n)
	}
	check(t, "model", h, w)
	for _, percent := range []int{-1, 0, 1, 5, 50, 95, 99, 100, 101} {
		n, ok := h.Cut(percent)
		if wantN, wantOK := m.cut(percent); n != wantN || ok != wantOK {
			t.Errorf("Cut(%d) = %d, %v, want %d, %v of %v", percent, n, ok, wantN, wantOK, m.bins)
		}
	}
	if got, want := h.Spread(), m.spread(); got != want {
		t.Errorf("Spread() = %v, want %v of %v", got, want, m.bins)
	}
}

func TestAgainstTheModel(t *testing.T) {
	random := rand.New(rand.NewSource(4))
	for _, width := range []int64{1, 3, 30, 50, 60, 100, 235, 300, 2000} {
		h, m := histo.New(), &model{bins: map[int64]int64{}}
		for i := range 10000 {
			x := random.Int63n(width+5) - 5
			h.Add(x)
			m.add(x)
			if i < 60 || i%331 == 0 {
				agree(t, h, m)
			}
			if t.Failed() {
				t.Fatalf("behind %d idle times below %d", i+1, width)
			}
		}
	}
}
