package box_test

import (
	"math"
	"math/rand"
	"testing"

	"greenhouse/box"
)

// at is what a sandbox is in, as calls leave it.
type at int

const (
	booting at = iota
	bound
	warm
	busy
	dead
)

var places = []struct {
	name       string
	at         at
	state      box.State
	bound      bool
	runs, idle bool
}{
	{"booting", booting, box.Booting, false, false, false},
	{"bound", bound, box.Booting, true, true, false},
	{"warm", warm, box.Warm, false, false, true},
	{"busy", busy, box.Busy, false, true, false},
	{"dead", dead, box.Dead, false, false, false},
}

// began is when sandboxes of these tests came into their place.
const began = 20

// brought is a sandbox that was brought to a place by calls alone; each of them did something.
func brought(t *testing.T, to at) *box.Box {
	t.Helper()
	b := box.New(1, 2, 3, 4, began)
	var done bool
	switch to {
	case booting:
		done = true
	case bound:
		done = b.Call(began)
	case warm:
		done = b.Booted(began)
	case busy:
		done = b.Booted(began) && b.Call(began)
	case dead:
		done = b.Kill(began)
	}
	if !done {
		t.Fatalf("a call on the way to %d told false", to)
	}
	return b
}

// is holds every field, and what Runs and Idle tell, against what is wanted.
func is(t *testing.T, b *box.Box, want box.Box) {
	t.Helper()
	if *b != want {
		t.Fatalf("it is %+v, want %+v", *b, want)
	}
	runs := want.State == box.Busy || want.State == box.Booting && want.Bound
	idle := want.State == box.Warm
	for range 2 {
		if b.Runs() != runs || b.Idle() != idle {
			t.Fatalf("of %+v Runs is %v, Idle %v", *b, b.Runs(), b.Idle())
		}
	}
	if *b != want {
		t.Fatalf("Runs or Idle turned it: %+v, was %+v", *b, want)
	}
}

// P12.1

func TestStates(t *testing.T) {
	if box.Booting != 0 || box.Warm != 1 || box.Busy != 2 || box.Dead != 3 {
		t.Errorf("the states are %d, %d, %d, %d", box.Booting, box.Warm, box.Busy, box.Dead)
	}
}

func TestNew(t *testing.T) {
	for _, w := range []box.Box{
		{ID: 1, Func: 2, Host: 3, Mem: 4, Since: 5},
		{ID: 4, Func: 3, Host: 2, Mem: 1},
		{},
		{ID: -1, Func: -2, Host: -3, Mem: -4, Since: -5},
		{ID: math.MaxInt, Func: math.MinInt, Host: math.MaxInt - 1, Mem: math.MinInt + 1, Since: math.MaxInt64},
		{Since: math.MinInt64},
	} {
		is(t, box.New(w.ID, w.Func, w.Host, w.Mem, w.Since), w)
	}
}

func TestRunsAndIdle(t *testing.T) {
	for _, p := range places {
		for _, pinned := range []bool{false, true} {
			b := brought(t, p.at)
			b.Pinned = pinned
			if b.State != p.state || b.Bound != p.bound {
				t.Fatalf("%s: it is %+v", p.name, *b)
			}
			if b.Runs() != p.runs || b.Idle() != p.idle {
				t.Errorf("%s, pinned %v: Runs is %v, Idle %v", p.name, pinned, b.Runs(), b.Idle())
			}
		}
	}
}

func TestEachIsNew(t *testing.T) {
	a, b := box.New(1, 2, 3, 4, 5), box.New(1, 2, 3, 4, 5)
	if a == b || !a.Call(6) || !a.Booted(7) {
		t.Fatal("two are one, or a call told false")
	}
	is(t, a, box.Box{ID: 1, Func: 2, Host: 3, Mem: 4, State: box.Busy, Since: 7})
	is(t, b, box.Box{ID: 1, Func: 2, Host: 3, Mem: 4, Since: 5})
	b.Kill(8)
	is(t, a, box.Box{ID: 1, Func: 2, Host: 3, Mem: 4, State: box.Busy, Since: 7})
}

// P12.2

// calls are the four, by name.
var calls = []struct {
	name string
	do   func(*box.Box, int64) bool
}{
	{"Call", (*box.Box).Call},
	{"Booted", (*box.Box).Booted},
	{"Done", (*box.Box).Done},
	{"Kill", (*box.Box).Kill},
}

// TestEachCallInEachState goes through all of them, pinned and not: want is what is done, each field of it, and nothing is the whole of a false.
func TestEachCallInEachState(t *testing.T) {
	const now = 77
	type turned struct {
		state box.State
		bound bool
		since int64
		kept  bool // Pinned stays what it was
	}
	nothing := turned{state: -1}
	table := map[string]map[string]turned{
		"booting": {
			"Call":   {box.Booting, true, began, true},
			"Booted": {box.Warm, false, now, true},
			"Done":   nothing,
			"Kill":   {box.Dead, false, now, false},
		},
		"bound": {
			"Call":   nothing,
			"Booted": {box.Busy, false, now, true},
			"Done":   nothing,
			"Kill":   {box.Dead, false, now, false},
		},
		"warm": {
			"Call":   {box.Busy, false, now, true},
			"Booted": nothing,
			"Done":   nothing,
			"Kill":   {box.Dead, false, now, false},
		},
		"busy": {
			"Call":   nothing,
			"Booted": nothing,
			"Done":   {box.Warm, false, now, true},
			"Kill":   {box.Dead, false, now, false},
		},
		"dead": {
			"Call":   nothing,
			"Booted": nothing,
			"Done":   nothing,
			"Kill":   nothing,
		},
	}
	for _, p := range places {
		for _, c := range calls {
			for _, pinned := range []bool{false, true} {
				b := brought(t, p.at)
				b.Pinned = pinned
				want, done := *b, false
				if w := table[p.name][c.name]; w != nothing {
					want.State, want.Bound, want.Since = w.state, w.bound, w.since
					want.Pinned = pinned && w.kept
					done = true
				}
				if got := c.do(b, now); got != done {
					t.Fatalf("%s of one that is %s, pinned %v, is %v", c.name, p.name, pinned, got)
				}
				is(t, b, want)
			}
		}
	}
}

func TestExample(t *testing.T) {
	b := box.New(1, 2, 3, 4, 5)
	if !b.Call(6) || !b.Booted(7) || b.State != box.Busy {
		t.Fatalf("New, Call, Booted: %+v", *b)
	}
	if !b.Done(8) || b.State != box.Warm {
		t.Fatalf("Done: %+v", *b)
	}
	if b.Done(9) {
		t.Fatal("Done again is true")
	}
	is(t, b, box.Box{ID: 1, Func: 2, Host: 3, Mem: 4, State: box.Warm, Since: 8})
}

func TestCallOfABootingOneLeavesSince(t *testing.T) {
	b := box.New(1, 2, 3, 4, 5)
	if !b.Call(6) {
		t.Fatal("Call is false")
	}
	is(t, b, box.Box{ID: 1, Func: 2, Host: 3, Mem: 4, Bound: true, Since: 5})
	if b.Call(7) {
		t.Fatal("a second Call is true: two calls of one sandbox")
	}
	is(t, b, box.Box{ID: 1, Func: 2, Host: 3, Mem: 4, Bound: true, Since: 5})
}

func TestManyCallsOneAfterAnother(t *testing.T) {
	b := box.New(1, 2, 3, 4, 0)
	b.Pinned = true
	if !b.Booted(1) {
		t.Fatal("Booted is false")
	}
	for now := int64(2); now < 40; now += 2 {
		if !b.Call(now) || b.Call(now) {
			t.Fatalf("at %d not just one Call was done", now)
		}
		is(t, b, box.Box{ID: 1, Func: 2, Host: 3, Mem: 4, State: box.Busy, Pinned: true, Since: now})
		if !b.Done(now+1) || b.Done(now+1) {
			t.Fatalf("at %d not just one Done was done", now+1)
		}
		is(t, b, box.Box{ID: 1, Func: 2, Host: 3, Mem: 4, State: box.Warm, Pinned: true, Since: now + 1})
	}
}

func TestDeadStaysDead(t *testing.T) {
	for _, p := range places[:4] {
		b := brought(t, p.at)
		b.Pinned = true
		if !b.Kill(30) {
			t.Fatalf("Kill of one that is %s is false", p.name)
		}
		want := box.Box{ID: 1, Func: 2, Host: 3, Mem: 4, State: box.Dead, Since: 30}
		is(t, b, want)
		for _, c := range calls {
			if c.do(b, 31) {
				t.Fatalf("%s of a dead one, that was %s, is true", c.name, p.name)
			}
			is(t, b, want)
		}
	}
}

// Time is whatever is handed in: it may stand, go back, and be at the ends of an int64.
func TestAnyTime(t *testing.T) {
	for _, now := range []int64{math.MinInt64, -1, 0, 1, began - 1, began, began + 1, 1 << 40, math.MaxInt64} {
		b := box.New(1, 2, 3, 4, now)
		steps := []struct {
			do    func(*box.Box, int64) bool
			state box.State
		}{
			{(*box.Box).Booted, box.Warm},
			{(*box.Box).Call, box.Busy},
			{(*box.Box).Done, box.Warm},
			{(*box.Box).Kill, box.Dead},
		}
		for i, s := range steps {
			b.Since = began
			if !s.do(b, now) {
				t.Fatalf("step %d at %d is false", i, now)
			}
			is(t, b, box.Box{ID: 1, Func: 2, Host: 3, Mem: 4, State: s.state, Since: now})
		}
	}
}

// A Box that nobody made is one that boots, of all that is 0.
func TestBare(t *testing.T) {
	var b box.Box
	is(t, &b, *box.New(0, 0, 0, 0, 0))
	if b.Done(1) || !b.Call(1) || !b.Booted(2) {
		t.Fatal("a bare one isn't as a new one")
	}
	is(t, &b, box.Box{State: box.Busy, Since: 2})
}

// model is a sandbox by the chapter's words.
type model struct {
	boots, waits, warm, runs, dead bool
	pinned                         bool
	since                          int64
}

func (m *model) do(call int, now int64) bool {
	was := *m
	switch call {
	case 0: // Call
		if m.warm {
			m.warm, m.runs, m.since = false, true, now
		} else if m.boots {
			m.waits = true
		}
	case 1: // Booted
		if m.boots {
			m.runs, m.warm, m.since = m.waits, !m.waits, now
			m.boots, m.waits = false, false
		}
	case 2: // Done
		if m.runs {
			m.runs, m.warm, m.since = false, true, now
		}
	case 3: // Kill
		if !m.dead {
			*m = model{dead: true, since: now}
		}
	}
	return *m != was
}

func (m *model) state() box.State {
	switch {
	case m.boots:
		return box.Booting
	case m.warm:
		return box.Warm
	case m.runs:
		return box.Busy
	}
	return box.Dead
}

// agrees lets a call be done to both, and holds them against each other.
func agrees(t *testing.T, b *box.Box, m *model, call int, now int64) {
	t.Helper()
	fields := *b
	if got, want := calls[call].do(b, now), m.do(call, now); got != want {
		t.Fatalf("%s at %d of %+v is %v", calls[call].name, now, fields, got)
	}
	fields.State, fields.Bound, fields.Pinned, fields.Since = m.state(), m.waits, m.pinned, m.since
	is(t, b, fields)
}

// Every row of five things that may be done, one tick each: the four calls, and a turn of Pinned.
func TestAllShortRows(t *testing.T) {
	const long, kinds = 6, 5
	rows := 1
	for range long {
		rows *= kinds
	}
	for row := range rows {
		b, m := box.New(9, 8, 7, 6, 0), &model{boots: true}
		for now, rest := int64(1), row; now <= long; now, rest = now+1, rest/kinds {
			if call := rest % kinds; call < len(calls) {
				agrees(t, b, m, call, now)
			} else {
				b.Pinned = !b.Pinned
				m.pinned = b.Pinned
			}
		}
	}
}

func TestRandomLives(t *testing.T) {
	r := rand.New(rand.NewSource(12))
	for range 2000 {
		since := r.Int63()
		b, m := box.New(r.Int(), -r.Int(), r.Int(), -r.Int(), since), &model{boots: true, since: since}
		for range 30 {
			b.Pinned = r.Intn(2) == 0
			m.pinned = b.Pinned
			call := r.Intn(len(calls))
			if call == 3 && r.Intn(10) > 0 {
				call = 0 // Kill comes seldom, so that lives are long
			}
			agrees(t, b, m, call, int64(r.Uint64()))
		}
	}
}
