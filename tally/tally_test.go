package tally_test

import (
	"math"
	"math/big"
	"math/rand"
	"runtime"
	"slices"
	"sync"
	"sync/atomic"
	"testing"

	"greenhouse/tally"
)

const (
	most  = math.MaxInt64
	least = math.MinInt64
)

// is sees that a Count is that number, by all that tell it.
func is(t *testing.T, c *tally.Count, want int64) {
	t.Helper()
	if got := c.Load(); got != want {
		t.Fatalf("Load is %d, want %d", got, want)
	}
	if got := c.Full(); got != (want == most) {
		t.Fatalf("Full is %v of %d", got, want)
	}
}

// add sees what Add tells, and that it is that.
func add(t *testing.T, c *tally.Count, n, want int64) {
	t.Helper()
	was := c.Load()
	if got := c.Add(n); got != want {
		t.Fatalf("Add(%d) to %d is %d, want %d", n, was, got, want)
	}
	is(t, c, want)
}

// raise sees what Most tells, and that it is that.
func raise(t *testing.T, c *tally.Count, n, want int64) {
	t.Helper()
	was := c.Load()
	if got := c.Most(n); got != want {
		t.Fatalf("Most(%d) of %d is %d, want %d", n, was, got, want)
	}
	is(t, c, want)
}

// at is a Count that is that number.
func at(n int64) *tally.Count {
	c := &tally.Count{}
	c.Add(n)
	return c
}

// edges is numbers around 0, and around the bounds.
func edges() []int64 {
	return []int64{least, least + 1, least + 2, least / 2, -1 << 32, -7, -1, 0, 1, 7, 1 << 32, most / 2, most/2 + 1, most - 2, most - 1, most}
}

// sum is two numbers put together by numbers of any size, or the nearer bound.
func sum(a, b int64) int64 {
	whole := new(big.Int).Add(big.NewInt(a), big.NewInt(b))
	switch {
	case whole.IsInt64():
		return whole.Int64()
	case whole.Sign() < 0:
		return least
	}
	return most
}

// P15.1

func TestNewCount(t *testing.T) {
	var c tally.Count
	is(t, &c, 0)
	is(t, &c, 0)
	add(t, &c, 0, 0)
	raise(t, &c, 0, 0)
}

func TestAdd(t *testing.T) {
	var c tally.Count
	add(t, &c, 3, 3)
	add(t, &c, -5, -2)
	add(t, &c, 0, -2)
	add(t, &c, 2, 0)
	add(t, &c, 1<<40, 1<<40)
	add(t, &c, -1<<41, -1<<40)
}

// Beyond the greatest number it stays there, and what is taken off goes from there.
func TestAddBeyondTheGreatest(t *testing.T) {
	var c tally.Count
	add(t, &c, most-1, most-1)
	add(t, &c, 1, most)
	add(t, &c, 0, most)
	add(t, &c, 1, most)
	add(t, &c, most, most)
	add(t, &c, -1, most-1)
	add(t, &c, 5, most)
	add(t, &c, -most, 0)
	add(t, &c, most, most)
	add(t, &c, least, -1)
}

func TestAddBeyondTheLeast(t *testing.T) {
	var c tally.Count
	add(t, &c, least+1, least+1)
	add(t, &c, -1, least)
	add(t, &c, 0, least)
	add(t, &c, -1, least)
	add(t, &c, least, least)
	add(t, &c, 1, least+1)
	add(t, &c, -5, least)
	add(t, &c, most, -1)
	add(t, &c, least, least)
}

func TestMost(t *testing.T) {
	var c tally.Count
	raise(t, &c, -1, 0)
	raise(t, &c, 5, 5)
	raise(t, &c, 4, 5)
	raise(t, &c, 5, 5)
	raise(t, &c, 6, 6)
	raise(t, &c, 0, 6)
	raise(t, &c, least, 6)
	raise(t, &c, most-1, most-1)
	raise(t, &c, most, most)
	raise(t, &c, most-1, most)
	raise(t, &c, -3, most)
}

func TestMostBelowZero(t *testing.T) {
	c := at(least)
	raise(t, c, least, least)
	raise(t, c, least+1, least+1)
	raise(t, c, -9, -9)
	raise(t, c, -10, -9)
	raise(t, c, -9, -9)
	raise(t, c, -8, -8)
	raise(t, c, 0, 0)
}

func TestFull(t *testing.T) {
	for _, n := range edges() {
		is(t, at(n), n)
	}
	c := at(most - 1)
	if c.Full() {
		t.Error("Full of one below the greatest")
	}
	c.Add(1)
	if !c.Full() {
		t.Error("not Full of the greatest")
	}
	c.Add(-1)
	if c.Full() {
		t.Error("Full behind Add of -1")
	}
	c.Most(most)
	if !c.Full() {
		t.Error("not Full behind Most of the greatest")
	}
}

func TestEdgesByEdges(t *testing.T) {
	for _, a := range edges() {
		for _, b := range edges() {
			add(t, at(a), b, sum(a, b))
			raise(t, at(a), b, max(a, b))
		}
	}
}

func TestRandomCounts(t *testing.T) {
	r := rand.New(rand.NewSource(15))
	for range 200 {
		var c tally.Count
		want := int64(0)
		for range 100 {
			n := int64(r.Uint64()) >> r.Intn(64)
			if r.Intn(3) > 0 {
				want = sum(want, n)
				add(t, &c, n, want)
			} else {
				want = max(want, n)
				raise(t, &c, n, want)
			}
		}
	}
}

func TestTwoCountsApart(t *testing.T) {
	var all [3]tally.Count
	add(t, &all[0], 4, 4)
	raise(t, &all[2], 9, 9)
	is(t, &all[0], 4)
	is(t, &all[1], 0)
	is(t, &all[2], 9)
}

// together runs so many at once, and comes back when all are done; all begin at one time, or the first would be done before the last began.
func together(n int, work func(i int)) {
	var ready, done sync.WaitGroup
	begin := make(chan struct{})
	for i := range n {
		ready.Add(1)
		done.Add(1)
		go func() {
			defer done.Done()
			ready.Done()
			<-begin
			work(i)
		}()
	}
	ready.Wait()
	close(begin)
	done.Wait()
}

// So many rounds that all are under way at one time for a good while.
const workers, rounds = 16, 40000

// Each Add is told another number, and none is left out: so each was done at one moment.
func TestManyAddAtOnce(t *testing.T) {
	var c tally.Count
	var told [workers][]int64
	together(workers, func(i int) {
		for range rounds {
			told[i] = append(told[i], c.Add(1))
		}
	})
	is(t, &c, workers*rounds)
	all := slices.Concat(told[:]...)
	slices.Sort(all)
	for i, n := range all {
		if n != int64(i)+1 {
			t.Fatalf("the number %d in order is %d", i+1, n)
		}
	}
}

func TestManyAddSeveralNumbersAtOnce(t *testing.T) {
	var c tally.Count
	want := int64(0)
	for i := range workers {
		want += int64(i*i-40) * rounds
	}
	together(workers, func(i int) {
		for range rounds {
			c.Add(int64(i*i - 40))
		}
	})
	is(t, &c, want)
}

// At the greatest number nobody ever sees one that wrapped round.
func TestManyAddBeyondTheGreatestAtOnce(t *testing.T) {
	c, low := at(most-rounds), at(least+rounds)
	var wrong atomic.Int64
	together(workers, func(i int) {
		for range rounds {
			if i%2 == 0 {
				if c.Add(1) <= most-rounds || low.Add(-1) >= least+rounds {
					wrong.Add(1)
				}
			} else if c.Load() < most-rounds || low.Load() > least+rounds {
				wrong.Add(1)
			}
		}
	})
	if wrong.Load() != 0 {
		t.Errorf("%d numbers that wrapped round", wrong.Load())
	}
	is(t, c, most)
	is(t, low, least)
}

func TestFullStaysWhileManyAdd(t *testing.T) {
	c := at(most)
	var wrong atomic.Int64
	together(workers, func(i int) {
		for n := range int64(rounds) {
			switch {
			case i%4 == 0 && !c.Full(), i%4 == 1 && c.Add(n) != most, i%4 == 2 && c.Most(n) != most, i%4 == 3 && c.Load() != most:
				wrong.Add(1)
			}
		}
	})
	if wrong.Load() != 0 {
		t.Errorf("%d times it wasn't the greatest", wrong.Load())
	}
}

// What Most tells is never less than what was handed in, nor than what was told before.
func TestManyMostAtOnce(t *testing.T) {
	c := at(-1000)
	var wrong atomic.Int64
	together(workers, func(i int) {
		before := int64(least)
		for k := range rounds {
			n := int64((k*7919+i*31)%rounds*workers + i)
			if i%4 == 3 {
				n = before
			}
			is := c.Most(n)
			if is < n || is < before || c.Load() < is {
				wrong.Add(1)
			}
			before = is
		}
	})
	if wrong.Load() != 0 {
		t.Errorf("%d answers of Most that are too small", wrong.Load())
	}
	// Of the workers whose numbers are their own the last but one has the greatest.
	is(t, c, (rounds-1)*workers+workers-2)
}

// Most of a number that is small enough turns nothing that others put to it at once.
func TestManyAddAndMostAtOnce(t *testing.T) {
	var c tally.Count
	together(workers, func(i int) {
		for range rounds {
			if i%2 == 0 {
				c.Add(2)
			} else {
				c.Most(-1)
				c.Most(c.Load() / 2)
			}
		}
	})
	is(t, &c, workers*rounds)
}

// Load never falls while numbers are put to it.
func TestLoadWhileManyAdd(t *testing.T) {
	var c tally.Count
	var wrong atomic.Int64
	together(workers, func(i int) {
		before := int64(0)
		for range rounds {
			if i%2 == 0 {
				c.Add(3)
			}
			n := c.Load()
			if n < before || n%3 != 0 || n > 3*rounds*workers/2 || c.Full() {
				wrong.Add(1)
			}
			before = n
		}
	})
	if wrong.Load() != 0 {
		t.Errorf("%d numbers that it can't have been", wrong.Load())
	}
	is(t, &c, 3*rounds*workers/2)
}

// P15.2

// once sees all that one Memo tells, of something that can be held against another.
func once[T comparable](t *testing.T, want T) {
	t.Helper()
	calls := 0
	m := tally.New(func() T {
		calls++
		if calls > 1 {
			t.Errorf("%v is made anew", want)
		}
		return want
	})
	if m.Made() || m.Made() || calls != 0 {
		t.Errorf("%v is made before it is asked for", want)
	}
	for range 3 {
		if got := m.Get(); got != want {
			t.Errorf("Get is %v, want %v", got, want)
		}
		if !m.Made() || calls != 1 {
			t.Errorf("%v: Made is %v, made %d times", want, m.Made(), calls)
		}
	}
}

func TestMemo(t *testing.T) {
	once(t, 7)
	once(t, "once")
	once(t, int64(least))
	once(t, 1.5)
	once(t, struct{ a, b int }{3, 4})
	once(t, [3]string{"a", "", "c"})
	once(t, &struct{ a int }{5})
	once[any](t, "some")
	once(t, true)
}

// The zero of a type is made like all else: it isn't told from one that wasn't made by what it is.
func TestMemoOfZeros(t *testing.T) {
	once(t, 0)
	once(t, "")
	once(t, false)
	once(t, struct{}{})
	once(t, struct{ a, b int }{})
	once[*int](t, nil)
	once[error](t, nil)
	once[any](t, nil)
	once[chan int](t, nil)
}

func TestMemoOfListsMapsAndFunctions(t *testing.T) {
	list := tally.New(func() []int { return []int{1, 2, 3} })
	if got := list.Get(); !slices.Equal(got, []int{1, 2, 3}) || &got[0] != &list.Get()[0] {
		t.Errorf("Get is %v, or another one again", got)
	}
	names := tally.New(func() map[string]int { return map[string]int{"a": 1} })
	if len(names.Get()) != 1 || names.Get()["a"] != 1 {
		t.Errorf("Get is %v", names.Get())
	}
	none := tally.New(func() map[string]int { return nil })
	if none.Get() != nil || !none.Made() {
		t.Errorf("Get is %v, Made %v, want no map, made", none.Get(), none.Made())
	}
	twice := tally.New(func() func(int) int { return func(n int) int { return 2 * n } })
	if twice.Get()(4) != 8 || !twice.Made() {
		t.Error("Get of a function")
	}
}

// What make would tell later counts no more.
func TestMemoKeepsTheFirst(t *testing.T) {
	n := 5
	next := func() int {
		n++
		return n
	}
	m, other := tally.New(next), tally.New(next)
	if m.Get() != 6 || m.Get() != 6 {
		t.Errorf("Get is %d, want 6", m.Get())
	}
	if other.Made() {
		t.Error("another one of the same make is made")
	}
	if other.Get() != 7 || other.Get() != 7 || m.Get() != 6 || n != 7 {
		t.Errorf("Get is %d and %d, want 6 and 7", m.Get(), other.Get())
	}
}

// One Memo's make may ask for another Memo.
func TestMemoOfAMemo(t *testing.T) {
	inner := tally.New(func() int { return 4 })
	outer := tally.New(func() int { return 10 * inner.Get() })
	if inner.Made() || outer.Made() || outer.Get() != 40 || !inner.Made() || !outer.Made() {
		t.Error("a Memo that asks for a Memo")
	}
}

// Of many that ask at once one makes it, and all are told the same.
func TestManyAskAtOnce(t *testing.T) {
	for range 200 {
		var calls atomic.Int64
		m := tally.New(func() *int64 {
			n := calls.Add(1)
			runtime.Gosched()
			return &n
		})
		var told [workers]*int64
		var early atomic.Int64
		together(workers, func(i int) {
			made := m.Made()
			told[i] = m.Get()
			if made && calls.Load() == 0 || !m.Made() {
				early.Add(1)
			}
		})
		if calls.Load() != 1 || early.Load() != 0 {
			t.Fatalf("make was called %d times, Made was wrong %d times", calls.Load(), early.Load())
		}
		for _, p := range told {
			if p == nil || p != told[0] || *p != 1 || p != m.Get() {
				t.Fatal("not all are told the same")
			}
		}
	}
}

// While it is being made it isn't made yet, and whoever asks is told nothing ahead of it.
func TestAskWhileItIsMade(t *testing.T) {
	begun, let := make(chan struct{}), make(chan struct{})
	calls := 0
	m := tally.New(func() string {
		calls++
		close(begun)
		<-let
		return "made"
	})
	var done sync.WaitGroup
	var back atomic.Int64
	ask := func() {
		defer done.Done()
		if got := m.Get(); got != "made" || !m.Made() {
			t.Errorf("Get is %q, Made %v", got, m.Made())
		}
		back.Add(1)
	}
	done.Add(1)
	go ask()
	<-begun
	for range workers {
		done.Add(1)
		go ask()
	}
	for range 200 {
		runtime.Gosched()
		if m.Made() || back.Load() != 0 {
			t.Fatalf("Made is %v, %d were told, while it is being made", m.Made(), back.Load())
		}
	}
	close(let)
	done.Wait()
	if calls != 1 || back.Load() != workers+1 {
		t.Errorf("make was called %d times, %d were told", calls, back.Load())
	}
}

// What make wrote is there for whoever sees that it was made.
func TestMadeThenGet(t *testing.T) {
	for range 200 {
		m := tally.New(func() []int { return []int{1, 2, 3, 4} })
		var wrong atomic.Int64
		together(4, func(i int) {
			if i == 0 {
				m.Get()
				return
			}
			// Not without end: a Made that is always false is to fail, not to hang.
			for tries := 0; tries < 1<<20 && !m.Made(); tries++ {
				runtime.Gosched()
			}
			if !m.Made() || len(m.Get()) != 4 || m.Get()[3] != 4 {
				wrong.Add(1)
			}
		})
		if wrong.Load() != 0 {
			t.Fatal("Made, and Get told something else")
		}
	}
}

// Of one that New didn't make, or of no make, nothing is promised; no call of it panics.
func TestMemoWithoutMake(t *testing.T) {
	var bare tally.Memo[int]
	for _, m := range []*tally.Memo[int]{&bare, tally.New[int](nil)} {
		if m.Made() || m.Get() != 0 || m.Get() != 0 {
			t.Error("a Memo without make")
		}
	}
}
