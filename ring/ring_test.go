package ring_test

import (
	"math"
	"slices"
	"testing"

	"greenhouse/ring"
)

// of is a Ring of numbers.
func of(nums ...int64) *ring.Ring {
	r := ring.New()
	for _, x := range nums {
		r.Push(x)
	}
	return r
}

// upTo is the numbers from one to another.
func upTo(from, to int64) []int64 {
	var list []int64
	for x := from; x <= to; x++ {
		list = append(list, x)
	}
	return list
}

func check(t *testing.T, name string, r *ring.Ring, want []int64) {
	t.Helper()
	if got := r.List(); !slices.Equal(got, want) {
		t.Errorf("%s: List() = %v, want %v", name, got, want)
	}
	if got := r.Len(); got != len(want) {
		t.Errorf("%s: Len() = %d, want %d", name, got, len(want))
	}
}

// P5.1

func TestNewHasNone(t *testing.T) {
	check(t, "New", ring.New(), nil)
}

func TestTheEldestGoesBehindEight(t *testing.T) {
	check(t, "one", of(5), []int64{5})
	check(t, "seven", of(upTo(1, 7)...), upTo(1, 7))
	check(t, "eight", of(upTo(1, 8)...), upTo(1, 8))
	check(t, "nine", of(upTo(1, 9)...), upTo(2, 9))
	check(t, "ten", of(upTo(1, 10)...), upTo(3, 10))
	check(t, "sixteen", of(upTo(1, 16)...), upTo(9, 16))
	check(t, "seventeen", of(upTo(1, 17)...), upTo(10, 17))
}

func TestEveryPushOfMany(t *testing.T) {
	r := ring.New()
	var all []int64
	for i := range int64(1000) {
		x := i * i * i % 101
		r.Push(x)
		all = append(all, x)
		check(t, "many", r, all[max(0, len(all)-8):])
	}
}

func TestNumbersOfAnyKind(t *testing.T) {
	odd := []int64{math.MaxInt64, 0, math.MinInt64, -1, -1, 0, 0, 1}
	check(t, "bounds, below 0, alike", of(odd...), odd)
	check(t, "alike", of(slices.Repeat([]int64{4}, 20)...), slices.Repeat([]int64{4}, 8))
}

func TestOneRingIsNotAnother(t *testing.T) {
	a, b := of(1, 2), of(3)
	a.Push(4)
	check(t, "a", a, []int64{1, 2, 4})
	check(t, "b", b, []int64{3})
}

func TestListIsNewMemory(t *testing.T) {
	for _, n := range []int64{1, 7, 8, 9, 30} {
		r := of(upTo(1, n)...)
		want := upTo(max(1, n-7), n)
		a, b := r.List(), r.List()
		a[0] = 99
		// What lies behind the list must be nobody's, too.
		_ = append(a, 98)
		if !slices.Equal(b, want) {
			t.Errorf("of %d: two answers share memory", n)
		}
		check(t, "written into an answer", r, want)
		r.Push(50)
		r.Push(51)
		if !slices.Equal(b, want) {
			t.Errorf("of %d: an answer turned with a Push", n)
		}
	}
}
