package warm_test

import (
	"fmt"
	"math"
	"math/big"
	"math/rand"
	"slices"
	"testing"

	"greenhouse/ratio"
	"greenhouse/warm"
)

// most is how much often and cost are, at most.
const most = 1 << 20

// set sees that Set tells true.
func set(t *testing.T, c *warm.Cache, id int, often, cost, mem uint64) {
	t.Helper()
	if !c.Set(id, often, cost, mem) {
		t.Fatalf("Set of %d: %d times %d by %d tells false", id, often, cost, mem)
	}
}

// worth sees that this one is worth up by down, as these two numbers.
func worth(t *testing.T, c *warm.Cache, id int, up, down uint64) {
	t.Helper()
	want := ratio.Ratio{Num: up, Den: down}
	if got, ok := c.Worth(id); got != want || !ok {
		t.Errorf("Worth of %d is %v, %v, want %v", id, got, ok, want)
	}
}

// gone sees that this one isn't there.
func gone(t *testing.T, c *warm.Cache, id int) {
	t.Helper()
	n, clock := c.Len(), c.Clock()
	if got, ok := c.Worth(id); got != (ratio.Ratio{}) || ok {
		t.Errorf("Worth of %d is %v, %v, want none", id, got, ok)
	}
	if c.Drop(id) || c.Len() != n || c.Clock() != clock {
		t.Errorf("Drop of %d took one out, of none", id)
	}
}

// goes sees that Least and Evict tell this one, which is gone then, and that Clock is this.
func goes(t *testing.T, c *warm.Cache, id int, clock uint64) {
	t.Helper()
	n := c.Len()
	if got, ok := c.Least(); got != id || !ok || c.Len() != n {
		t.Errorf("Least is %d, %v, want %d", got, ok, id)
	}
	if got, ok := c.Evict(); got != id || !ok || c.Len() != n-1 {
		t.Errorf("Evict is %d, %v, want %d", got, ok, id)
	}
	if c.Clock() != clock {
		t.Errorf("Clock is %d, want %d", c.Clock(), clock)
	}
	gone(t, c, id)
}

// empty sees that none is there, and that Clock is this, and stays.
func empty(t *testing.T, c *warm.Cache, clock uint64) {
	t.Helper()
	if id, ok := c.Least(); id != 0 || ok {
		t.Errorf("Least is %d, %v, want none", id, ok)
	}
	if id, ok := c.Evict(); id != 0 || ok {
		t.Errorf("Evict is %d, %v, want none", id, ok)
	}
	if c.Len() != 0 || c.Clock() != clock {
		t.Errorf("Len is %d, Clock %d, want 0, %d", c.Len(), c.Clock(), clock)
	}
}

// P9.1

func TestNone(t *testing.T) {
	c := warm.New()
	empty(t, c, 0)
	for _, id := range []int{0, 1, -1, math.MinInt, math.MaxInt} {
		gone(t, c, id)
	}
	empty(t, c, 0)
}

// Of a Cache that New didn't make only that no call panics is promised.
func TestBare(t *testing.T) {
	var c warm.Cache
	empty(t, &c, 0)
	gone(t, &c, 1)
	set(t, &c, 2, 1, 10, 1)
	set(t, &c, 1, 2, 10, 4)
	goes(t, &c, 1, 5)
}

func TestWorth(t *testing.T) {
	c := warm.New()
	set(t, c, 1, 2, 10, 4)
	worth(t, c, 1, 20, 4)
	set(t, c, 2, 1, 10, 1)
	worth(t, c, 2, 10, 1)
	worth(t, c, 1, 20, 4)
	// 0 of whatever is worth nothing, and is there all the same.
	set(t, c, 3, 0, 10, 3)
	worth(t, c, 3, 0, 3)
	set(t, c, 4, 10, 0, 5)
	worth(t, c, 4, 0, 5)
	// Not often by mem first: 3 times 5 by 2 is 15 by 2.
	set(t, c, 5, 3, 5, 2)
	worth(t, c, 5, 15, 2)
	set(t, c, 6, most, most, math.MaxUint64)
	worth(t, c, 6, most*most, math.MaxUint64)
	set(t, c, 7, most, most, 1)
	worth(t, c, 7, most*most, 1)
	gone(t, c, 8)
	gone(t, c, 0)
	if c.Len() != 7 || c.Clock() != 0 {
		t.Errorf("Len is %d, Clock %d, want 7, 0", c.Len(), c.Clock())
	}
}

func TestSetAnew(t *testing.T) {
	c := warm.New()
	set(t, c, 1, 1, 10, 1)
	set(t, c, 2, 1, 20, 1)
	set(t, c, 1, 1, 30, 1)
	worth(t, c, 1, 30, 1)
	if id, ok := c.Least(); id != 2 || !ok || c.Len() != 2 {
		t.Errorf("Least is %d, %v, want 2", id, ok)
	}
	set(t, c, 1, 1, 5, 1)
	worth(t, c, 1, 5, 1)
	if id, ok := c.Least(); id != 1 || !ok || c.Len() != 2 {
		t.Errorf("Least is %d, %v, want 1", id, ok)
	}
	set(t, c, 1, 1, 5, 1)
	worth(t, c, 1, 5, 1)
	goes(t, c, 1, 5)
	// Behind that the same is worth 5 more, and what is there is worth what it was.
	worth(t, c, 2, 20, 1)
	set(t, c, 2, 1, 20, 1)
	worth(t, c, 2, 25, 1)
	set(t, c, 1, 1, 5, 2)
	worth(t, c, 1, 15, 2)
}

func TestDrop(t *testing.T) {
	c := warm.New()
	for id := 1; id <= 4; id++ {
		set(t, c, id, 1, uint64(10*id), 1)
	}
	if !c.Drop(2) || c.Drop(2) || c.Len() != 3 {
		t.Error("Drop of 2, and again")
	}
	gone(t, c, 2)
	if !c.Drop(1) {
		t.Error("Drop of the least")
	}
	// Drop leaves Clock as it is, whatever was worth what.
	if c.Clock() != 0 {
		t.Errorf("Clock is %d, want 0", c.Clock())
	}
	set(t, c, 5, 1, 1, 1)
	worth(t, c, 5, 1, 1)
	goes(t, c, 5, 1)
	if !c.Drop(4) || c.Clock() != 1 {
		t.Errorf("Clock is %d, want 1", c.Clock())
	}
	goes(t, c, 3, 30)
	empty(t, c, 30)
	set(t, c, 3, 1, 1, 1)
	worth(t, c, 3, 31, 1)
	if !c.Drop(3) {
		t.Error("Drop of one that was evicted, and set anew")
	}
	empty(t, c, 30)
}

func TestNoMemory(t *testing.T) {
	c := warm.New()
	for _, up := range []uint64{0, 1, most} {
		if c.Set(1, up, up, 0) {
			t.Errorf("Set of a mem of 0, %d times %d, tells true", up, up)
		}
	}
	gone(t, c, 1)
	empty(t, c, 0)
	set(t, c, 1, 2, 10, 4)
	set(t, c, 2, 1, 10, 1)
	if c.Set(1, 9, 9, 0) {
		t.Error("Set of a mem of 0 tells true, of an id that is there")
	}
	worth(t, c, 1, 20, 4)
	goes(t, c, 1, 5)
	if c.Set(1, 9, 9, 0) || c.Clock() != 5 || c.Len() != 1 {
		t.Error("Set of a mem of 0 tells true behind an Evict")
	}
	gone(t, c, 1)
}

// Clock is 2^40 here: with a mem of 2^24 that is 2^64, and has no room.
func TestNoRoom(t *testing.T) {
	c := warm.New()
	set(t, c, 1, most, most, 1)
	goes(t, c, 1, 1<<40)
	set(t, c, 2, 3, 4, 5)
	worth(t, c, 2, 5<<40+12, 5)
	for _, mem := range []uint64{1 << 24, 1<<24 + 1, 1 << 40, 1 << 63, math.MaxUint64} {
		for _, id := range []int{1, 2} {
			if c.Set(id, 0, 0, mem) || c.Set(id, 1, 1, mem) {
				t.Errorf("Set of %d, by %d, tells true", id, mem)
			}
		}
	}
	// 2^40 times this mem is 2^40 short of 2^64.
	const mem = 1<<24 - 1
	for _, id := range []int{1, 2} {
		if c.Set(id, most, most, mem) {
			t.Errorf("Set of %d, just too much, tells true", id)
		}
	}
	gone(t, c, 1)
	worth(t, c, 2, 5<<40+12, 5)
	if c.Len() != 1 || c.Clock() != 1<<40 {
		t.Errorf("Len is %d, Clock %d, want 1, 2^40", c.Len(), c.Clock())
	}
	set(t, c, 1, most-1, most, mem)
	worth(t, c, 1, math.MaxUint64-most+1, mem)
	goes(t, c, 2, 1<<40+2)
	// 2^40 - 2^20 by this mem is 65535, and something is left.
	goes(t, c, 1, 1<<40+65535)
	empty(t, c, 1<<40+65535)
}

// P9.2

func TestTheFirstOneGoesFirst(t *testing.T) {
	c := warm.New()
	set(t, c, 1, 2, 10, 4)
	set(t, c, 2, 1, 10, 1)
	goes(t, c, 1, 5)
	goes(t, c, 2, 10)
	empty(t, c, 10)
}

// All orders in which they are set: of those that are worth the same the least id goes first.
func TestTheSameWorth(t *testing.T) {
	ids := []int{-7, -1, 0, 3, 12}
	mems := map[int]uint64{-7: 10, -1: 2, 0: 6, 3: 4, 12: 8}
	each(ids, func(order []int) {
		c := warm.New()
		for _, id := range order {
			// 1 by 2, 2 by 4, and so on.
			set(t, c, id, 1, mems[id]/2, mems[id])
		}
		for _, id := range ids {
			goes(t, c, id, 0)
		}
		empty(t, c, 0)
	})
}

// each hands on all orders of a list.
func each(list []int, use func([]int)) {
	var next func(done, left []int)
	next = func(done, left []int) {
		if len(left) == 0 {
			use(done)
		}
		for i := range left {
			next(append(slices.Clone(done), left[i]), slices.Delete(slices.Clone(left), i, i+1))
		}
	}
	next(nil, list)
}

func TestNearlyTheSameWorth(t *testing.T) {
	c := warm.New()
	// Whole parts are the same, and so are quotients of floats.
	const wide = 1 << 60
	set(t, c, 1, most, most, wide-1)
	set(t, c, 2, most, most, wide)
	set(t, c, 3, most, most, wide+1)
	goes(t, c, 3, 0)
	goes(t, c, 2, 0)
	goes(t, c, 1, 0)
	set(t, c, 1, 7, 1, 3)
	set(t, c, 2, 9, 1, 4)
	set(t, c, 3, 11, 1, 5)
	goes(t, c, 3, 2)
	goes(t, c, 2, 2)
	goes(t, c, 1, 2)
}

func TestIDsBelow0(t *testing.T) {
	c := warm.New()
	set(t, c, -1, 1, 3, 1)
	set(t, c, math.MinInt, 1, 4, 1)
	set(t, c, math.MaxInt, 1, 4, 1)
	set(t, c, 0, 1, 4, 1)
	worth(t, c, math.MinInt, 4, 1)
	worth(t, c, math.MaxInt, 4, 1)
	goes(t, c, -1, 3)
	goes(t, c, math.MinInt, 4)
	goes(t, c, 0, 4)
	goes(t, c, math.MaxInt, 4)
	empty(t, c, 4)
}

func TestEvictTillNoneIsLeft(t *testing.T) {
	costs := []uint64{9, 2, 7, 4, 1, 8, 3, 6, 5}
	for _, gap := range []int{1, 2, 4, 5, 7, 8} {
		c := warm.New()
		for i := range costs {
			cost := costs[i*gap%len(costs)]
			set(t, c, -int(cost), 1, cost, 1)
		}
		for cost := 1; cost <= len(costs); cost++ {
			goes(t, c, -cost, uint64(cost))
		}
		empty(t, c, uint64(len(costs)))
	}
}

func TestClockIsTheFloor(t *testing.T) {
	c := warm.New()
	set(t, c, 1, 1, 1, 2)
	set(t, c, 2, 1, 19, 10)
	set(t, c, 3, 1, 20, 10)
	set(t, c, 4, 1, 39, 10)
	goes(t, c, 1, 0)
	goes(t, c, 2, 1)
	goes(t, c, 3, 2)
	goes(t, c, 4, 3)
	// Nothing is worth more than Clock, and leaves it.
	set(t, c, 5, 0, 0, 7)
	worth(t, c, 5, 21, 7)
	goes(t, c, 5, 3)
	set(t, c, 6, 1, 6, 7)
	worth(t, c, 6, 27, 7)
	goes(t, c, 6, 3)
}

func TestWhatIsSetLaterIsWorthMore(t *testing.T) {
	c := warm.New()
	set(t, c, 1, 1, 10, 2)
	set(t, c, 9, 1, 3, 1)
	set(t, c, 2, 1, 10, 2)
	goes(t, c, 9, 3)
	set(t, c, 0, 1, 10, 2)
	worth(t, c, 1, 10, 2)
	worth(t, c, 2, 10, 2)
	worth(t, c, 0, 16, 2)
	// It has the least id, and stays longest.
	goes(t, c, 1, 5)
	goes(t, c, 2, 5)
	goes(t, c, 0, 8)
}

// What is set for nothing behind an Evict is worth just what went: where another one is worth that, the id decides.
func TestTheSameWorthAcrossAnEvict(t *testing.T) {
	c := warm.New()
	set(t, c, 5, 1, 8, 2)
	set(t, c, 6, 1, 4, 1)
	goes(t, c, 5, 4)
	set(t, c, 2, 0, 1, 3)
	worth(t, c, 2, 12, 3)
	goes(t, c, 2, 4)
	goes(t, c, 6, 4)
}

func TestTwoCachesApart(t *testing.T) {
	a, b := warm.New(), warm.New()
	set(t, a, 1, 1, 5, 1)
	set(t, b, 1, 1, 7, 1)
	goes(t, a, 1, 5)
	worth(t, b, 1, 7, 1)
	if b.Clock() != 0 || b.Len() != 1 {
		t.Errorf("Clock is %d, Len %d, want 0, 1", b.Clock(), b.Len())
	}
	set(t, b, 2, 1, 1, 1)
	worth(t, b, 2, 1, 1)
	empty(t, a, 5)
}

// model is a cache by the chapter's words, with numbers of any size.
type model struct {
	clock *big.Int
	there map[int]*big.Rat
}

func (m *model) set(id int, often, cost, mem uint64) bool {
	by := new(big.Int).SetUint64(mem)
	up := new(big.Int).Mul(new(big.Int).SetUint64(often), new(big.Int).SetUint64(cost))
	up.Add(up, new(big.Int).Mul(m.clock, by))
	if mem == 0 || up.BitLen() > 64 {
		return false
	}
	m.there[id] = new(big.Rat).SetFrac(up, by)
	return true
}

func (m *model) least() (int, bool) {
	least, found := 0, false
	for id, w := range m.there {
		if found {
			order := w.Cmp(m.there[least])
			if order > 0 || order == 0 && id > least {
				continue
			}
		}
		least, found = id, true
	}
	return least, found
}

func (m *model) evict() (int, bool) {
	id, ok := m.least()
	if ok {
		w := m.there[id]
		if floor := new(big.Int).Quo(w.Num(), w.Denom()); floor.Cmp(m.clock) > 0 {
			m.clock = floor
		}
		delete(m.there, id)
	}
	return id, ok
}

// agree holds all that a cache tells against the model.
func agree(t *testing.T, name string, c *warm.Cache, m *model, ids int) {
	t.Helper()
	if c.Len() != len(m.there) || c.Clock() != m.clock.Uint64() {
		t.Fatalf("%s: Len is %d, Clock %d, want %d, %v", name, c.Len(), c.Clock(), len(m.there), m.clock)
	}
	id, ok := c.Least()
	if want, there := m.least(); id != want || ok != there {
		t.Fatalf("%s: Least is %d, %v, want %d, %v", name, id, ok, want, there)
	}
	for id := -ids; id <= ids; id++ {
		got, ok := c.Worth(id)
		want := m.there[id]
		if ok != (want != nil) || !ok && got != (ratio.Ratio{}) {
			t.Fatalf("%s: Worth of %d is %v, %v, want %v", name, id, got, ok, want)
		}
		if ok && new(big.Rat).SetFrac(new(big.Int).SetUint64(got.Num), new(big.Int).SetUint64(got.Den)).Cmp(want) != 0 {
			t.Fatalf("%s: Worth of %d is %v, want %v", name, id, got, want)
		}
	}
}

// reach is numbers of which one is picked: small ones, so that many are the same, and ones at the bounds.
type reach struct{ often, cost, mem []uint64 }

func reaches() []reach {
	return []reach{
		{[]uint64{0, 1, 2, 3}, []uint64{0, 1, 2, 3}, []uint64{0, 1, 2, 3, 4}},
		{[]uint64{1, 2, 999, 1000}, []uint64{1, 10, 1000}, []uint64{1, 128, 4096}},
		{[]uint64{0, 1, most - 1, most}, []uint64{1, most - 1, most}, []uint64{0, 1, 2, 1<<24 - 1, 1 << 24, 1 << 63, math.MaxUint64}},
	}
}

func TestAtRandomByTheModel(t *testing.T) {
	const ids = 8
	for seed := range int64(90) {
		r := rand.New(rand.NewSource(seed))
		from := reaches()[seed%3]
		pick := func(list []uint64) uint64 { return list[r.Intn(len(list))] }
		c, m := warm.New(), &model{new(big.Int), map[int]*big.Rat{}}
		for range 300 {
			id := r.Intn(2*ids+1) - ids
			name := fmt.Sprint("seed ", seed)
			clock := c.Clock()
			switch r.Intn(5) {
			case 0:
				_, there := m.there[id]
				delete(m.there, id)
				if c.Drop(id) != there || c.Clock() != clock {
					t.Fatalf("%s: Drop of %d isn't %v", name, id, there)
				}
			case 1:
				got, ok := c.Evict()
				if want, there := m.evict(); got != want || ok != there {
					t.Fatalf("%s: Evict is %d, %v, want %d, %v", name, got, ok, want, there)
				}
				if c.Clock() < clock {
					t.Fatalf("%s: Clock fell from %d to %d", name, clock, c.Clock())
				}
			default:
				often, cost, mem := pick(from.often), pick(from.cost), pick(from.mem)
				if want := m.set(id, often, cost, mem); c.Set(id, often, cost, mem) != want || c.Clock() != clock {
					t.Fatalf("%s: Set of %d: %d times %d by %d isn't %v", name, id, often, cost, mem, want)
				}
			}
			agree(t, name, c, m, ids)
		}
	}
}
