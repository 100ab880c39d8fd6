package heap_test

import (
	"fmt"
	"math"
	"math/bits"
	"math/rand"
	"strings"
	"testing"

	"greenhouse/heap"
)

func rising(a, b int) bool { return a < b }

func falling(a, b int) bool { return a > b }

// pair is a key with a value.
type pair struct{ k, v int }

// of is a heap of those, set one behind the other.
func of(pairs ...pair) *heap.Heap[int, int] {
	h := heap.New[int, int](rising)
	for _, p := range pairs {
		h.Set(p.k, p.v)
	}
	return h
}

// least sees that Min tells just this key.
func least(t *testing.T, h *heap.Heap[int, int], k, v int) {
	t.Helper()
	if gotK, gotV, ok := h.Min(); gotK != k || gotV != v || !ok {
		t.Errorf("Min is %d with %d, %v, want %d with %d", gotK, gotV, ok, k, v)
	}
}

// has sees that Get tells this value.
func has(t *testing.T, h *heap.Heap[int, int], k, v int) {
	t.Helper()
	if got, ok := h.Get(k); got != v || !ok {
		t.Errorf("Get of %d is %d, %v, want %d", k, got, ok, v)
	}
}

// hasNot sees that a key has no value, and that Drop says so.
func hasNot[K comparable, V comparable](t *testing.T, h *heap.Heap[K, V], k K) {
	t.Helper()
	var zero V
	n := h.Len()
	if got, ok := h.Get(k); got != zero || ok {
		t.Errorf("Get of %v is %v, %v, want none", k, got, ok)
	}
	if h.Drop(k) || h.Len() != n {
		t.Errorf("Drop of %v took one out, of none", k)
	}
}

// empty sees that there are no keys.
func empty[K comparable, V comparable](t *testing.T, h *heap.Heap[K, V]) {
	t.Helper()
	var zeroK K
	var zeroV V
	if k, v, ok := h.Min(); k != zeroK || v != zeroV || ok {
		t.Errorf("Min is %v with %v, %v, want none", k, v, ok)
	}
	if h.Len() != 0 {
		t.Errorf("Len is %d, want 0", h.Len())
	}
}

// agree holds a heap against a map of the same keys and values; asked is keys that may be there.
func agree(t *testing.T, name string, h *heap.Heap[int, int], model map[int]int, less func(a, b int) bool, asked int) {
	t.Helper()
	if h.Len() != len(model) {
		t.Fatalf("%s: Len is %d, want %d", name, h.Len(), len(model))
	}
	for k := range asked {
		want, there := model[k]
		if got, ok := h.Get(k); got != want || ok != there {
			t.Fatalf("%s: Get of %d is %d, %v, want %d, %v", name, k, got, ok, want, there)
		}
	}
	k, v, ok := h.Min()
	if want, there := model[k]; ok != there || ok && v != want || ok != (len(model) > 0) || !ok && (k != 0 || v != 0) {
		t.Fatalf("%s: Min is %d with %d, %v, of %v", name, k, v, ok, model)
	}
	for other, w := range model {
		if less(w, v) {
			t.Fatalf("%s: Min is %d with %d, and %d with %d is less", name, k, v, other, w)
		}
	}
}

// P8.1

func TestTheLeastOfThree(t *testing.T) {
	h := of(pair{1, 5}, pair{2, 3})
	least(t, h, 2, 3)
	h.Set(1, 2)
	least(t, h, 1, 2)
	if h.Len() != 2 {
		t.Errorf("Len is %d, want 2", h.Len())
	}
	has(t, h, 1, 2)
	has(t, h, 2, 3)
}

func TestNoKeys(t *testing.T) {
	h := heap.New[int, int](rising)
	empty(t, h)
	hasNot(t, h, 0)
	hasNot(t, h, 1)
	empty(t, h)
	words := heap.New[string, string](func(a, b string) bool { return a < b })
	empty(t, words)
	hasNot(t, words, "")
	hasNot(t, words, "x")
}

func TestOneKey(t *testing.T) {
	h := of(pair{7, -3})
	least(t, h, 7, -3)
	has(t, h, 7, -3)
	// 0 is what a value is that there isn't: a key that has none is none all the same.
	hasNot(t, h, 0)
	hasNot(t, h, -3)
	h.Set(7, 0)
	least(t, h, 7, 0)
	has(t, h, 7, 0)
	if !h.Drop(7) {
		t.Error("Drop of the one key tells false")
	}
	empty(t, h)
	hasNot(t, h, 7)
	h.Set(7, 4)
	least(t, h, 7, 4)
}

func TestSetAnew(t *testing.T) {
	for at := range 9 {
		for _, v := range []int{-1, 0, 1, 15, 29, 30, 31, 32, 33, 79, 80, 81, math.MinInt, math.MaxInt} {
			h, model := heap.New[int, int](rising), map[int]int{}
			for k := range 9 {
				h.Set(k, 10*k)
				model[k] = 10 * k
			}
			h.Set(at, v)
			model[at] = v
			emptied(t, fmt.Sprint(at, " anew with ", v), h, model, rising)
		}
	}
}

func TestSetAnewWithTheSame(t *testing.T) {
	h := of(pair{1, 5}, pair{2, 3}, pair{3, 4})
	for _, p := range []pair{{1, 5}, {2, 3}, {3, 4}} {
		h.Set(p.k, p.v)
		least(t, h, 2, 3)
		has(t, h, p.k, p.v)
		if h.Len() != 3 {
			t.Errorf("Len is %d, want 3", h.Len())
		}
	}
}

// emptied takes the least out till there is none, and sees each time that all the rest is there.
func emptied(t *testing.T, name string, h *heap.Heap[int, int], model map[int]int, less func(a, b int) bool) {
	t.Helper()
	asked := len(model)
	agree(t, name, h, model, less, asked)
	for range asked {
		k, _, _ := h.Min()
		if !h.Drop(k) || h.Drop(k) {
			t.Fatalf("%s: Drop of the least, %d", name, k)
		}
		delete(model, k)
		agree(t, name, h, model, less, asked)
	}
	empty(t, h)
}

func TestDropTwice(t *testing.T) {
	h := of(pair{1, 5}, pair{2, 3}, pair{3, 4})
	hasNot(t, h, 4)
	if !h.Drop(3) || h.Drop(3) || h.Len() != 2 {
		t.Error("Drop of 3, and again")
	}
	hasNot(t, h, 3)
	least(t, h, 2, 3)
	has(t, h, 1, 5)
	h.Set(3, 1)
	least(t, h, 3, 1)
	if !h.Drop(3) || h.Drop(3) {
		t.Error("Drop of 3 that was set anew")
	}
}

func TestDropTheLeastTheLastAndTheMiddle(t *testing.T) {
	h := of(pair{1, 50}, pair{2, 10}, pair{3, 40}, pair{4, 20}, pair{5, 60}, pair{6, 30})
	h.Drop(2)
	least(t, h, 4, 20)
	h.Drop(6)
	least(t, h, 4, 20)
	h.Drop(3)
	least(t, h, 4, 20)
	h.Drop(4)
	least(t, h, 1, 50)
	h.Drop(1)
	least(t, h, 5, 60)
	h.Drop(5)
	empty(t, h)
}

// orders is values in which some order comes: rising, falling, turn by turn, all the same.
func orders() map[string]func(i, n int) int {
	return map[string]func(i, n int) int{
		"rising":   func(i, n int) int { return i },
		"falling":  func(i, n int) int { return n - i },
		"the same": func(i, n int) int { return 7 },
		"two":      func(i, n int) int { return i % 2 },
		"in turn":  func(i, n int) int { return (i%2*2 - 1) * i },
		"strewn":   func(i, n int) int { return i * 7 % 17 },
		"edges":    func(i, n int) int { return []int{0, math.MaxInt, math.MinInt, -1}[i%4] },
	}
}

// Of every size and order each one key is dropped, and the rest goes by its order: the last one may have to rise where one was dropped, or to sink.
func TestDropAnyOne(t *testing.T) {
	for name, value := range orders() {
		for n := 1; n <= 20; n++ {
			for gone := range n {
				for _, less := range []func(a, b int) bool{rising, falling} {
					h, model := heap.New[int, int](less), map[int]int{}
					for k := range n {
						h.Set(k, value(k, n))
						model[k] = value(k, n)
					}
					if !h.Drop(gone) || h.Drop(gone) {
						t.Fatalf("%s, %d: Drop of %d", name, n, gone)
					}
					delete(model, gone)
					emptied(t, fmt.Sprint(name, n, gone), h, model, less)
				}
			}
		}
	}
}

func TestSameValues(t *testing.T) {
	h := of(pair{1, 4}, pair{2, 4}, pair{3, 4}, pair{4, 9})
	seen := map[int]int{}
	for range 3 {
		k, v, ok := h.Min()
		if !ok || v != 4 || !h.Drop(k) {
			t.Errorf("Min is %d with %d, %v", k, v, ok)
		}
		seen[k]++
	}
	if len(seen) != 3 || seen[4] != 0 {
		t.Errorf("%v went, want 1, 2, 3", seen)
	}
	least(t, h, 4, 9)
}

// Every row of five calls, of two keys or three with as many values.
func TestAllShortRows(t *testing.T) {
	const keys, values, calls = 3, 3, 5
	const kinds = keys * (values + 1)
	rows := 1
	for range calls {
		rows *= kinds
	}
	for row := range rows {
		h, model := heap.New[int, int](rising), map[int]int{}
		for left, i := row, 0; i < calls; left, i = left/kinds, i+1 {
			k, v := left%kinds%keys, left%kinds/keys
			if v < values {
				h.Set(k, v)
				model[k] = v
			} else {
				_, there := model[k]
				if h.Drop(k) != there {
					t.Fatalf("row %d: Drop of %d isn't %v", row, k, there)
				}
				delete(model, k)
			}
			agree(t, fmt.Sprint("row ", row), h, model, rising, keys)
		}
	}
}

func TestManyAtRandom(t *testing.T) {
	for seed := range int64(60) {
		r := rand.New(rand.NewSource(seed))
		keys, values := 1+r.Intn(80), 1+r.Intn(120)
		less := rising
		if seed%2 == 1 {
			less = falling
		}
		h, model := heap.New[int, int](less), map[int]int{}
		for range 1500 {
			k := r.Intn(keys)
			if r.Intn(3) > 0 {
				v := r.Intn(values) - values/2
				h.Set(k, v)
				model[k] = v
			} else {
				_, there := model[k]
				if h.Drop(k) != there {
					t.Fatalf("seed %d: Drop of %d isn't %v", seed, k, there)
				}
				delete(model, k)
			}
			agree(t, fmt.Sprint("seed ", seed), h, model, less, keys)
		}
	}
}

func TestWordsByLength(t *testing.T) {
	h := heap.New[string, string](func(a, b string) bool { return len(a) < len(b) })
	h.Set("", "four")
	h.Set("a", "one more")
	h.Set("b", "six it")
	if k, v, ok := h.Min(); k != "" || v != "four" || !ok {
		t.Errorf("Min is %q with %q, %v", k, v, ok)
	}
	h.Set("b", "")
	if k, v, ok := h.Min(); k != "b" || v != "" || !ok {
		t.Errorf("Min is %q with %q, %v", k, v, ok)
	}
	// A key that is worked out is the same as one that is written.
	if !h.Drop(strings.Repeat("b", 1)) || h.Len() != 2 {
		t.Error("Drop of b")
	}
}

func TestStructsArraysAndInterfacesAsKeys(t *testing.T) {
	byV := func(a, b pair) bool { return a.v < b.v }
	structs := heap.New[pair, pair](byV)
	structs.Set(pair{1, 1}, pair{9, 3})
	structs.Set(pair{1, 2}, pair{8, 2})
	structs.Set(pair{1, 1}, pair{7, 1})
	if k, v, ok := structs.Min(); k != (pair{1, 1}) || v != (pair{7, 1}) || !ok || structs.Len() != 2 {
		t.Errorf("Min is %v with %v, %v", k, v, ok)
	}
	hasNot(t, structs, pair{2, 1})
	arrays := heap.New[[2]int8, float64](func(a, b float64) bool { return a < b })
	arrays.Set([2]int8{1, 2}, 0.5)
	arrays.Set([2]int8{2, 1}, math.Inf(-1))
	if k, v, ok := arrays.Min(); k != [2]int8{2, 1} || v != math.Inf(-1) || !ok {
		t.Errorf("Min is %v with %v, %v", k, v, ok)
	}
	mixed := heap.New[any, int](rising)
	mixed.Set(1, 3)
	mixed.Set("1", 2)
	mixed.Set(nil, 4)
	mixed.Set(int64(1), 1)
	if k, v, ok := mixed.Min(); k != any(int64(1)) || v != 1 || !ok || mixed.Len() != 4 || !mixed.Drop(nil) || mixed.Drop(nil) {
		t.Errorf("Min is %v with %v, %v", k, v, ok)
	}
}

// Values needn't be such as can be held against each other.
func TestListsAsValues(t *testing.T) {
	h := heap.New[bool, []int](func(a, b []int) bool { return len(a) < len(b) })
	h.Set(true, []int{1, 2})
	h.Set(false, nil)
	if k, v, ok := h.Min(); k || v != nil || !ok {
		t.Errorf("Min is %v with %v, %v", k, v, ok)
	}
	h.Set(false, []int{3, 4, 5})
	if v, ok := h.Get(true); len(v) != 2 || v[0] != 1 || !ok {
		t.Errorf("Get is %v, %v", v, ok)
	}
	if k, v, ok := h.Min(); !k || len(v) != 2 || !ok {
		t.Errorf("Min is %v with %v, %v", k, v, ok)
	}
}

func TestTwoHeapsApart(t *testing.T) {
	up, down := heap.New[int, int](rising), heap.New[int, int](falling)
	for k := range 5 {
		up.Set(k, k)
		down.Set(k, k)
	}
	least(t, up, 0, 0)
	least(t, down, 4, 4)
	up.Drop(0)
	least(t, up, 1, 1)
	least(t, down, 4, 4)
	has(t, down, 0, 0)
}

// Without an order, or without New, nothing is promised but that no call panics, and that keys have their values.
func TestNoOrder(t *testing.T) {
	var bare heap.Heap[int, int]
	for _, h := range []*heap.Heap[int, int]{&bare, heap.New[int, int](nil)} {
		empty(t, h)
		hasNot(t, h, 1)
		for k := range 10 {
			h.Set(k, -k)
			h.Set(k/2, k)
		}
		has(t, h, 9, -9)
		if _, _, ok := h.Min(); !ok || h.Len() != 10 || !h.Drop(0) || !h.Drop(9) {
			t.Error("a heap without an order")
		}
	}
}

// P8.2

// asks is a heap that counts how often less is asked.
type asks struct {
	*heap.Heap[int, int]
	n, most int
}

func counting() *asks {
	a := &asks{}
	a.Heap = heap.New[int, int](func(x, y int) bool {
		a.n++
		return x < y
	})
	return a
}

// within sees how often less is asked by a call. 2^30 keys are too many for a test, so the bound is such as grows by their number of digits, and is 100 at 2^30.
func (a *asks) within(t *testing.T, name string, call func()) {
	t.Helper()
	bound := min(100, 7+3*bits.Len(uint(a.Len())))
	a.n = 0
	call()
	a.most = max(a.most, a.n)
	if a.n > bound {
		t.Fatalf("%s asks less %d times, of %d keys", name, a.n, a.Len())
	}
}

// never sees that Min, Get and Len don't ask at all.
func (a *asks) never(t *testing.T, k int) {
	t.Helper()
	a.n = 0
	a.Min()
	a.Get(k)
	a.Len()
	if a.n != 0 {
		t.Fatalf("Min, Get and Len ask less %d times", a.n)
	}
}

func TestHowOftenLessIsAsked(t *testing.T) {
	const n = 1 << 14
	for name, value := range orders() {
		a := counting()
		a.never(t, 0)
		for k := range n {
			a.within(t, name+": Set", func() { a.Set(k, value(k, n)) })
			a.never(t, k)
		}
		for k := range n {
			a.within(t, name+": Set anew", func() { a.Set(k, value(k, n)+n) })
			a.within(t, name+": Set anew", func() { a.Set(k, value(k, n)-n) })
			a.within(t, name+": Set the same", func() { a.Set(k, value(k, n)-n) })
		}
		for k := range n / 2 {
			a.within(t, name+": Drop", func() { a.Drop(k) })
			a.within(t, name+": Drop again", func() { a.Drop(k) })
			a.never(t, k)
		}
		for a.Len() > 0 {
			k, _, _ := a.Min()
			a.within(t, name+": Drop of the least", func() { a.Drop(k) })
		}
		a.never(t, 0)
	}
}

func TestHowOftenLessIsAskedOfManyKeys(t *testing.T) {
	const n = 1 << 19
	a := counting()
	for k := range n {
		a.Set(k, k)
	}
	r := rand.New(rand.NewSource(1))
	for range 20000 {
		k, v := r.Intn(n), r.Intn(3*n)-n
		a.within(t, "Set", func() { a.Set(k, v) })
		a.never(t, k)
	}
	for range 20000 {
		k, _, _ := a.Min()
		a.within(t, "Set of the least to the end", func() { a.Set(k, 2*n) })
		k, _, _ = a.Min()
		a.within(t, "Drop of the least", func() { a.Drop(k) })
		a.within(t, "Drop", func() { a.Drop(r.Intn(n)) })
	}
	// A heap that never asks would have no order to go by.
	if a.most == 0 {
		t.Error("less is never asked")
	}
}
