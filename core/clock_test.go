package core

import (
	"testing"

	"greenhouse/api"
	"greenhouse/event"
	"greenhouse/reply"
)

// P18.3: a Tick at MaxTime is nothing. So many ticks can't be done, so the time is set by hand here.
func TestTickAtMaxTime(t *testing.T) {
	c := New()
	do := func(e event.Event, want string, commands ...string) {
		t.Helper()
		a, list := c.Do(e)
		if a.String() != want || len(list) != len(commands) {
			t.Fatalf("%+v: %s, %v, want %s, %v", e, a, list, want, commands)
		}
		for i, k := range list {
			if k.String() != commands[i] {
				t.Fatalf("%+v: %v, want %v", e, list, commands)
			}
		}
	}
	tokens := func(want int) {
		t.Helper()
		if n, ok := c.Tokens(0); n != want || !ok {
			t.Fatalf("Tokens is %d, want %d", n, want)
		}
	}
	do(event.Event{Kind: event.Account, Limit: 9, Size: 9, Refill: 1}, "ok")
	do(event.Event{Kind: event.Func, N: 0, Mem: 1, Cost: 1}, "ok")
	do(event.Event{Kind: event.Func, N: 1, Mem: 1, Cost: 1}, "ok")
	do(event.Event{Kind: event.Host, Size: 2}, "ok")
	c.now = api.MaxTime - 10
	do(event.Event{Kind: event.Call}, "cold 1", "boot 1 0 0")
	do(event.Event{Kind: event.Booted, N: 1}, "ok")
	do(event.Event{Kind: event.Done, N: 1}, "ok")
	do(event.Event{Kind: event.Call}, "warm 1")
	do(event.Event{Kind: event.Call}, "cold 2", "boot 2 0 0")
	do(event.Event{Kind: event.Booted, N: 2}, "ok")
	do(event.Event{Kind: event.Done, N: 1}, "ok")
	tokens(7)

	// The last tick that there is does what any does.
	c.now = api.MaxTime - 1
	do(event.Event{}, "ok", "kill 1 0 0")
	tokens(8)
	if c.Now() != api.MaxTime {
		t.Fatalf("Now is %d", c.Now())
	}

	// What is set for later than that never comes; tokens don't, and nothing is kept.
	do(event.Event{Kind: event.Done, N: 2}, "ok")
	do(event.Event{Kind: event.Account, Limit: 9, Size: 9, Refill: 9}, "ok")
	do(event.Event{Kind: event.Call}, "warm 2")
	do(event.Event{Kind: event.Call}, "cold 3", "boot 3 0 0")
	do(event.Event{Kind: event.Func, N: 1, Mem: 1, Cost: 1, Keep: 1}, "ok")
	do(event.Event{Kind: event.Done, N: 2}, "ok")
	do(event.Event{Kind: event.Broke, N: 3}, "ok")
	tokens(7)
	taken := c.Answered(reply.Taken)
	for range 20 {
		do(event.Event{}, "ok")
	}
	tokens(7)
	if c.Now() != api.MaxTime || c.Answered(reply.Taken) != taken+20 || len(c.Boxes()) != 1 || c.Free(0) != 1 {
		t.Errorf("Now is %d, answered %d, Boxes %v, Free %d", c.Now(), c.Answered(reply.Taken), c.Boxes(), c.Free(0))
	}
	if at, ok := c.Ends(2); at != api.MaxTime+10 || !ok {
		t.Errorf("Ends is %d, %v", at, ok)
	}
	// All else goes on.
	do(event.Event{Kind: event.Call}, "warm 2")
	do(event.Event{Kind: event.Host, N: 1, Size: 1}, "ok", "boot 4 1 0")
	do(event.Event{Kind: event.Done, N: 2}, "ok")
}
