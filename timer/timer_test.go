package timer_test

import (
	"fmt"
	"math"
	"math/rand"
	"slices"
	"sort"
	"testing"

	"greenhouse/timer"
)

const (
	late  = math.MaxInt64
	early = math.MinInt64
)

// set is a key with its time.
type set struct {
	kind, id int
	at       int64
}

func (s set) key() timer.Key { return timer.Key{Kind: s.kind, ID: s.id} }

// of is timers of those, set one behind the other.
func of(sets ...set) *timer.Timers {
	x := timer.New()
	for _, s := range sets {
		x.Set(s.key(), s.at)
	}
	return x
}

// keys is a list of keys, each of a Kind and an ID.
func keys(pairs ...[2]int) []timer.Key {
	var list []timer.Key
	for _, p := range pairs {
		list = append(list, timer.Key{Kind: p[0], ID: p[1]})
	}
	return list
}

// due sees that Due tells just these.
func due(t *testing.T, x *timer.Timers, now int64, want []timer.Key) {
	t.Helper()
	if got := x.Due(now); !slices.Equal(got, want) {
		t.Errorf("Due(%d) is %v, want %v", now, got, want)
	}
}

// next sees that Next tells this key, and that it has no time any more.
func next(t *testing.T, x *timer.Timers, now int64, kind, id int) {
	t.Helper()
	n, want := x.Len(), timer.Key{Kind: kind, ID: id}
	if got, ok := x.Next(now); got != want || !ok {
		t.Errorf("Next(%d) is %v, %v, want %v", now, got, ok, want)
	}
	if x.Len() != n-1 {
		t.Errorf("Len behind Next is %d, want %d", x.Len(), n-1)
	}
	hasNot(t, x, want)
}

// none sees that nothing comes up to a time, and that asking for it takes nothing out.
func none(t *testing.T, x *timer.Timers, now int64) {
	t.Helper()
	n := x.Len()
	if k, ok := x.Next(now); k != (timer.Key{}) || ok {
		t.Errorf("Next(%d) is %v, %v, want none", now, k, ok)
	}
	due(t, x, now, nil)
	if x.Len() != n {
		t.Errorf("Len behind Next and Due of none is %d, want %d", x.Len(), n)
	}
}

// has sees that a key has that time.
func has(t *testing.T, x *timer.Timers, s set) {
	t.Helper()
	if at, ok := x.At(s.key()); at != s.at || !ok {
		t.Errorf("At(%v) is %d, %v, want %d", s.key(), at, ok, s.at)
	}
}

// hasNot sees that a key has no time, and that Drop says so.
func hasNot(t *testing.T, x *timer.Timers, k timer.Key) {
	t.Helper()
	n := x.Len()
	if at, ok := x.At(k); at != 0 || ok {
		t.Errorf("At(%v) is %d, %v, want none", k, at, ok)
	}
	if x.Drop(k) || x.Len() != n {
		t.Errorf("Drop(%v) took one out, of none", k)
	}
}

// drop sees that a key had a time, and has none behind Drop.
func drop(t *testing.T, x *timer.Timers, kind, id int) {
	t.Helper()
	n, k := x.Len(), timer.Key{Kind: kind, ID: id}
	if !x.Drop(k) {
		t.Errorf("Drop(%v) is false", k)
	}
	if x.Len() != n-1 {
		t.Errorf("Len behind Drop is %d, want %d", x.Len(), n-1)
	}
	hasNot(t, x, k)
}

// model is timers by the chapter's words: each key with its time, and no order at all.
type model map[timer.Key]int64

// first is what Next tells, without taking it out.
func (m model) first(now int64) (timer.Key, bool) {
	var best timer.Key
	found := false
	for k, at := range m {
		if at <= now && (!found || ahead(at, k, m[best], best)) {
			best, found = k, true
		}
	}
	return best, found
}

// next is first, taken out.
func (m model) next(now int64) (timer.Key, bool) {
	k, ok := m.first(now)
	if ok {
		delete(m, k)
	}
	return k, ok
}

// due sorts all that come, and takes them out.
func (m model) due(now int64) []timer.Key {
	var list []timer.Key
	for k, at := range m {
		if at <= now {
			list = append(list, k)
		}
	}
	sort.Slice(list, func(i, j int) bool { return ahead(m[list[i]], list[i], m[list[j]], list[j]) })
	for _, k := range list {
		delete(m, k)
	}
	return list
}

func (m model) drop(k timer.Key) bool {
	_, ok := m[k]
	delete(m, k)
	return ok
}

// ahead tells whether one key with its time comes ahead of another one.
func ahead(at int64, k timer.Key, otherAt int64, other timer.Key) bool {
	switch {
	case at != otherAt:
		return at < otherAt
	case k.Kind != other.Kind:
		return k.Kind < other.Kind
	}
	return k.ID < other.ID
}

// agree holds timers against a model, at keys that may be there.
func agree(t *testing.T, name string, x *timer.Timers, m model, asked []timer.Key) {
	t.Helper()
	if x.Len() != len(m) {
		t.Fatalf("%s: Len is %d, want %d", name, x.Len(), len(m))
	}
	for _, k := range asked {
		want, there := m[k]
		if at, ok := x.At(k); at != want || ok != there {
			t.Fatalf("%s: At(%v) is %d, %v, want %d, %v", name, k, at, ok, want, there)
		}
	}
}

// P14.1

func TestNoTimes(t *testing.T) {
	x := timer.New()
	for range 2 {
		if x.Len() != 0 {
			t.Errorf("Len is %d, want 0", x.Len())
		}
		for _, k := range keys([2]int{}, [2]int{1, 2}, [2]int{-1, -1}, [2]int{math.MinInt, math.MaxInt}) {
			hasNot(t, x, k)
		}
		for _, now := range []int64{early, -1, 0, 1, late} {
			none(t, x, now)
		}
	}
}

func TestOneTime(t *testing.T) {
	for _, s := range []set{{1, 2, 5}, {0, 0, 0}, {-3, 4, -5}, {math.MinInt, math.MaxInt, early}, {math.MaxInt, math.MinInt, late}} {
		x := of(s)
		has(t, x, s)
		if x.Len() != 1 {
			t.Errorf("Len is %d, want 1", x.Len())
		}
		hasNot(t, x, timer.Key{Kind: s.kind, ID: s.id ^ 1})
		hasNot(t, x, timer.Key{Kind: s.kind ^ 1, ID: s.id})
		has(t, x, s)
		drop(t, x, s.kind, s.id)
		none(t, x, late)
	}
}

// The two numbers of a key don't stand for each other.
func TestKindAndIDApart(t *testing.T) {
	x := of(set{1, 2, 5}, set{2, 1, 6})
	has(t, x, set{1, 2, 5})
	has(t, x, set{2, 1, 6})
	hasNot(t, x, timer.Key{Kind: 1, ID: 1})
	hasNot(t, x, timer.Key{Kind: 2, ID: 2})
	drop(t, x, 1, 2)
	has(t, x, set{2, 1, 6})
	due(t, x, 9, keys([2]int{2, 1}))
}

// A time of 0 is one all the same, and one that is set for the key of zeros too.
func TestZeros(t *testing.T) {
	x := of(set{0, 0, 0})
	has(t, x, set{0, 0, 0})
	none(t, x, -1)
	has(t, x, set{0, 0, 0})
	next(t, x, 0, 0, 0)
	none(t, x, 0)
}

func TestSetAnew(t *testing.T) {
	all := []set{{0, 1, 10}, {0, 2, 20}, {0, 3, 30}, {1, 0, 20}, {1, 1, 40}}
	for _, s := range all {
		for _, at := range []int64{early, -1, 0, 9, 10, 11, 19, 20, 21, 29, 30, 31, 40, 41, late} {
			x, m := of(all...), model{}
			for _, other := range all {
				m[other.key()] = other.at
			}
			x.Set(s.key(), at)
			m[s.key()] = at
			name := fmt.Sprint(s, " anew at ", at)
			agree(t, name, x, m, keys([2]int{0, 1}, [2]int{0, 2}, [2]int{0, 3}, [2]int{1, 0}, [2]int{1, 1}))
			if got, want := x.Due(late), m.due(late); !slices.Equal(got, want) {
				t.Errorf("%s: Due is %v, want %v", name, got, want)
			}
		}
	}
}

func TestSetEarlierLaterAndTheSame(t *testing.T) {
	x := of(set{0, 1, 10}, set{0, 2, 20})
	x.Set(timer.Key{ID: 2}, 5)
	has(t, x, set{0, 2, 5})
	has(t, x, set{0, 1, 10})
	if x.Len() != 2 {
		t.Errorf("Len is %d, want 2", x.Len())
	}
	// What it was before counts no more: neither an earlier time nor a later one.
	next(t, x, 5, 0, 2)
	none(t, x, 9)
	x.Set(timer.Key{ID: 1}, 30)
	none(t, x, 29)
	x.Set(timer.Key{ID: 1}, 30)
	none(t, x, 29)
	next(t, x, 30, 0, 1)
	none(t, x, late)
}

func TestDrop(t *testing.T) {
	all := []set{{1, 1, 10}, {1, 2, 20}, {0, 1, 30}, {0, 2, 40}, {2, 0, 50}}
	for i, s := range all {
		x := of(all...)
		drop(t, x, s.kind, s.id)
		var rest []timer.Key
		for j, other := range all {
			if j != i {
				has(t, x, other)
				rest = append(rest, other.key())
			}
		}
		due(t, x, 50, rest)
		if x.Len() != 0 {
			t.Errorf("Len is %d, want 0", x.Len())
		}
	}
}

func TestDropAndSetAgain(t *testing.T) {
	x := of(set{1, 1, 10}, set{1, 2, 20}, set{1, 3, 30})
	drop(t, x, 1, 2)
	x.Set(timer.Key{Kind: 1, ID: 2}, 5)
	has(t, x, set{1, 2, 5})
	due(t, x, 30, keys([2]int{1, 2}, [2]int{1, 1}, [2]int{1, 3}))
}

func TestDropOfWhatCame(t *testing.T) {
	x := of(set{1, 1, 10}, set{1, 2, 20}, set{1, 3, 30}, set{1, 4, 40})
	next(t, x, 15, 1, 1)
	due(t, x, 30, keys([2]int{1, 2}, [2]int{1, 3}))
	for id := 1; id <= 3; id++ {
		hasNot(t, x, timer.Key{Kind: 1, ID: id})
	}
	has(t, x, set{1, 4, 40})
	// Set again it comes again, even at a time that was before.
	x.Set(timer.Key{Kind: 1, ID: 1}, 10)
	x.Set(timer.Key{Kind: 1, ID: 3}, 50)
	has(t, x, set{1, 1, 10})
	due(t, x, 45, keys([2]int{1, 1}, [2]int{1, 4}))
	has(t, x, set{1, 3, 50})
	drop(t, x, 1, 3)
	none(t, x, late)
}

// P14.2

func TestDueOfThree(t *testing.T) {
	x := of(set{1, 2, 5}, set{1, 1, 5}, set{0, 9, 7})
	due(t, x, 6, keys([2]int{1, 1}, [2]int{1, 2}))
	has(t, x, set{0, 9, 7})
	if x.Len() != 1 {
		t.Errorf("Len is %d, want 1", x.Len())
	}
	none(t, x, 6)
	due(t, x, 7, keys([2]int{0, 9}))
	none(t, x, late)
}

func TestNextOfThree(t *testing.T) {
	x := of(set{1, 2, 5}, set{1, 1, 5}, set{0, 9, 7})
	next(t, x, 6, 1, 1)
	has(t, x, set{1, 2, 5})
	has(t, x, set{0, 9, 7})
	next(t, x, 6, 1, 2)
	none(t, x, 6)
	next(t, x, 7, 0, 9)
	none(t, x, 7)
}

func TestNextAtItsTime(t *testing.T) {
	for _, at := range []int64{early + 1, -7, -1, 0, 1, 8, 1 << 31, 1 << 32, 1 << 40, late} {
		x := of(set{3, 4, at})
		none(t, x, at-1)
		none(t, x, early)
		has(t, x, set{3, 4, at})
		next(t, x, at, 3, 4)
		none(t, x, at)
		x.Set(timer.Key{Kind: 3, ID: 4}, at)
		due(t, x, at-1, nil)
		due(t, x, at, keys([2]int{3, 4}))
		due(t, x, at, nil)
	}
}

// Times that are far apart: less one another they would wrap round.
func TestTheLeastAndTheGreatestTimes(t *testing.T) {
	x := of(set{0, 1, late}, set{0, 2, 0}, set{0, 3, early}, set{0, 4, late - 1}, set{0, 5, early + 1}, set{0, 6, -1})
	due(t, x, early, keys([2]int{0, 3}))
	none(t, x, early)
	next(t, x, 0, 0, 5)
	due(t, x, 0, keys([2]int{0, 6}, [2]int{0, 2}))
	none(t, x, late-2)
	due(t, x, late-1, keys([2]int{0, 4}))
	next(t, x, late, 0, 1)
	none(t, x, late)
}

func TestSameTimes(t *testing.T) {
	want := keys(
		[2]int{math.MinInt, math.MinInt}, [2]int{math.MinInt, math.MaxInt},
		[2]int{-2, 5}, [2]int{-1, math.MaxInt},
		[2]int{0, math.MinInt}, [2]int{0, -1}, [2]int{0, 0}, [2]int{0, 1}, [2]int{0, math.MaxInt},
		[2]int{1, -9}, [2]int{1, 2}, [2]int{2, 1},
		[2]int{math.MaxInt, math.MinInt}, [2]int{math.MaxInt, 0}, [2]int{math.MaxInt, math.MaxInt})
	for _, at := range []int64{early, -4, 0, 4, late} {
		for seed := range 20 {
			x := timer.New()
			for _, i := range rand.New(rand.NewSource(int64(seed))).Perm(len(want)) {
				x.Set(want[i], at)
			}
			due(t, x, at, want)
		}
	}
}

// The time goes ahead of the Kind, and the Kind ahead of the ID.
func TestTimeThenKindThenID(t *testing.T) {
	x := of(set{2, 1, 4}, set{1, 9, 4}, set{0, 0, 5}, set{9, 9, 3}, set{1, 3, 4})
	due(t, x, 5, keys([2]int{9, 9}, [2]int{1, 3}, [2]int{1, 9}, [2]int{2, 1}, [2]int{0, 0}))
}

// now may be earlier than one that was asked before: nothing of it is kept.
func TestEarlierNow(t *testing.T) {
	x := of(set{0, 1, 10}, set{0, 2, 20})
	next(t, x, 15, 0, 1)
	none(t, x, 5)
	x.Set(timer.Key{ID: 3}, 7)
	none(t, x, 6)
	next(t, x, 7, 0, 3)
	next(t, x, 20, 0, 2)
}

func TestDueIsNextAgainAndAgain(t *testing.T) {
	r := rand.New(rand.NewSource(14))
	for range 300 {
		x, twin := timer.New(), timer.New()
		for range r.Intn(30) {
			k, at := timer.Key{Kind: r.Intn(3), ID: r.Intn(8)}, int64(r.Intn(9))
			x.Set(k, at)
			twin.Set(k, at)
		}
		for now := int64(-1); now < 10; now += int64(1 + r.Intn(3)) {
			var want []timer.Key
			for k, ok := twin.Next(now); ok; k, ok = twin.Next(now) {
				want = append(want, k)
			}
			due(t, x, now, want)
			if x.Len() != twin.Len() {
				t.Fatalf("Len is %d behind Due, %d behind Next", x.Len(), twin.Len())
			}
		}
	}
}

// What Due told is nobody's but the asker's.
func TestDueIsNewMemory(t *testing.T) {
	x := of(set{0, 1, 1}, set{0, 2, 2}, set{0, 3, 3}, set{0, 4, 4})
	was := x.Due(2)
	x.Set(timer.Key{ID: 7}, 0)
	due(t, x, 3, keys([2]int{0, 7}, [2]int{0, 3}))
	if !slices.Equal(was, keys([2]int{0, 1}, [2]int{0, 2})) {
		t.Errorf("what Due told is %v now", was)
	}
	clear(was[:cap(was)])
	has(t, x, set{0, 4, 4})
	due(t, x, 4, keys([2]int{0, 4}))
}

func TestTwoTimersApart(t *testing.T) {
	x, y := of(set{0, 1, 1}), of(set{0, 1, 2})
	has(t, x, set{0, 1, 1})
	has(t, y, set{0, 1, 2})
	next(t, x, 1, 0, 1)
	has(t, y, set{0, 1, 2})
	drop(t, y, 0, 1)
	x.Set(timer.Key{ID: 1}, 3)
	hasNot(t, y, timer.Key{ID: 1})
	has(t, x, set{0, 1, 3})
}

// One that New didn't make is promised to be nothing, but no call of it panics.
func TestWithoutNew(t *testing.T) {
	var len0, drop0, at0, next0, due0, set0 timer.Timers
	if len0.Len() != 0 || drop0.Drop(timer.Key{}) || len(due0.Due(late)) != 0 {
		t.Error("Len, Drop or Due of one that New didn't make")
	}
	if _, ok := at0.At(timer.Key{}); ok {
		t.Error("At of one that New didn't make")
	}
	if _, ok := next0.Next(late); ok {
		t.Error("Next of one that New didn't make")
	}
	set0.Set(timer.Key{Kind: 1, ID: 2}, 5)
	next(t, &set0, 5, 1, 2)
}

// step does one call, by a number, to timers and to a model, and sees that both tell the same.
func step(t *testing.T, name string, x *timer.Timers, m model, k timer.Key, at int64, call int) {
	t.Helper()
	switch call {
	case 0:
		x.Set(k, at)
		m[k] = at
	case 1:
		if got, want := x.Drop(k), m.drop(k); got != want {
			t.Fatalf("%s: Drop(%v) is %v", name, k, got)
		}
	case 2:
		got, ok := x.Next(at)
		if want, there := m.next(at); got != want || ok != there {
			t.Fatalf("%s: Next(%d) is %v, %v, want %v, %v", name, at, got, ok, want, there)
		}
	default:
		if got, want := x.Due(at), m.due(at); !slices.Equal(got, want) {
			t.Fatalf("%s: Due(%d) is %v, want %v", name, at, got, want)
		}
	}
}

// Every row of five calls, of three keys and two times.
func TestAllShortRows(t *testing.T) {
	asked := keys([2]int{0, 1}, [2]int{1, 0}, [2]int{0, 2})
	const times, calls = 2, 5
	kinds := len(asked)*times + len(asked) + 2*times
	rows := 1
	for range calls {
		rows *= kinds
	}
	for row := range rows {
		x, m, left := timer.New(), model{}, row
		for range calls {
			n := left % kinds
			left /= kinds
			sets, drops := len(asked)*times, len(asked)
			switch {
			case n < sets:
				step(t, "a short row", x, m, asked[n/times], int64(n%times), 0)
			case n < sets+drops:
				step(t, "a short row", x, m, asked[n-sets], 0, 1)
			default:
				n -= sets + drops
				step(t, "a short row", x, m, timer.Key{}, int64(n%times), 2+n/times)
			}
		}
		agree(t, fmt.Sprint("row ", row), x, m, asked)
	}
}

// Random rows, of times that are often the same, and of such as are at the ends.
func TestRandomRows(t *testing.T) {
	edges := []int64{early, early + 1, -1, 0, 1, late - 1, late}
	near := []int64{3, 4, 5, 6, 7}
	var asked []timer.Key
	for _, kind := range []int{math.MinInt, -1, 0, 1, math.MaxInt} {
		for _, id := range []int{math.MinInt, -1, 0, 1, 2, math.MaxInt} {
			asked = append(asked, timer.Key{Kind: kind, ID: id})
		}
	}
	for seed := range int64(60) {
		r := rand.New(rand.NewSource(seed))
		times := [][]int64{edges, near}[seed%2]
		x, m := timer.New(), model{}
		for range 400 {
			// Mostly Set, or there would seldom be many; Due of the greatest seldom.
			call := []int{0, 0, 0, 0, 0, 0, 1, 2, 2, 3}[r.Intn(10)]
			at := times[r.Intn(len(times))]
			if call == 3 && r.Intn(4) > 0 {
				at = times[r.Intn(len(times)/2)]
			}
			step(t, fmt.Sprint("seed ", seed), x, m, asked[r.Intn(len(asked))], at, call)
			agree(t, fmt.Sprint("seed ", seed), x, m, asked)
		}
	}
}

// Many keys, set in several orders, some of them turned or dropped on the way.
func TestManyKeys(t *testing.T) {
	const n = 3000
	orders := map[string]func(i int) int64{
		"rising":   func(i int) int64 { return int64(i) },
		"falling":  func(i int) int64 { return int64(n - i) },
		"the same": func(int) int64 { return 7 },
		"strewn":   func(i int) int64 { return int64(i*7919) % 1013 },
		"in turn":  func(i int) int64 { return int64((i%2*2 - 1) * i) },
	}
	for name, time := range orders {
		x, m := timer.New(), model{}
		for i := range n {
			step(t, name, x, m, timer.Key{Kind: i % 5, ID: -i}, time(i), 0)
		}
		for i := 0; i < n; i += 3 {
			step(t, name, x, m, timer.Key{Kind: i % 5, ID: -i}, time(n-1-i)-5, 0)
		}
		for i := 0; i < n; i += 7 {
			step(t, name, x, m, timer.Key{Kind: i % 5, ID: -i}, 0, 1)
		}
		for _, now := range []int64{-n, 6, 7, 100, n / 2, n / 2, n + 1} {
			step(t, name, x, m, timer.Key{}, now, 3)
			if x.Len() != len(m) {
				t.Fatalf("%s: Len is %d, want %d", name, x.Len(), len(m))
			}
		}
		if x.Len() != 0 {
			t.Errorf("%s: %d are left", name, x.Len())
		}
	}
}
