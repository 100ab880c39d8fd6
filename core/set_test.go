package core_test

import (
	"testing"

	"greenhouse/core"
	"greenhouse/event"
)

// P18.3: Account

func TestAccount(t *testing.T) {
	script(t, `
		account 16 1 1 1 > refused arg
		account 2147483647 1 1 1 > refused arg
		account 0 1001 1 1 > refused arg
		account 0 1 1001 1 > refused arg
		account 0 1 1 1001 > refused arg
		account 0 2147483647 2147483647 2147483647 > refused arg
		tokens 0 > none
		account 15 1000 1000 1000
		tokens 15 > 1000
		account 0 0 0 0
		tokens 0 > 0
		account 1 5 7 0
		tokens 1 > 7
		tokens 2 > none
	`)
}

func TestAccountAnew(t *testing.T) {
	script(t, `
		account 0 5 6 0
		func 0 0 1 1 0 0
		host 0 99
		call 0 > boot 1 0 0, cold 1
		tokens 0 > 5
		# more than there are: they stay, and so many come from now on
		account 0 5 9 2
		tokens 0 > 5
		tick
		tokens 0 > 7
		ticks 2
		tokens 0 > 9
		# fewer than there are: the rest is lost
		account 0 5 3 1
		tokens 0 > 3
		tick
		tokens 0 > 3
		account 0 5 9 1
		tokens 0 > 3
		tick
		tokens 0 > 4
		account 0 5 0 0
		tokens 0 > 0
		account 0 5 9 0
		tokens 0 > 0
		call 0 > throttled tokens
		tick
		tokens 0 > 0
	`)
	// The limit: what runs goes on, and none begins till fewer do.
	script(t, `
		account 0 3 9 0
		func 0 0 1 1 0 0
		host 0 99
		call 0 > boot 1 0 0, cold 1
		call 0 > boot 2 0 0, cold 2
		call 0 > boot 3 0 0, cold 3
		booted 1
		booted 2
		booted 3
		call 0 > throttled account
		account 0 2 9 0
		busy 0 > 3
		done 1
		call 0 > throttled account
		done 2
		call 0 > warm 1
		call 0 > throttled account
		account 0 3 9 0
		call 0 > warm 2
		account 0 0 9 0
		done 1
		done 2
		done 3
		call 0 > throttled account
	`)
}

func TestAccountRefused(t *testing.T) {
	script(t, `
		account 0 5 6 1
		func 0 0 1 1 2 0
		func 1 0 1 1 1 0
		host 0 99
		call 0 > boot 1 0 0, cold 1
		call 0 > boot 2 0 0, cold 2
		tokens 0 > 4
		# layer 11's errors: less than what is reserved
		account 0 2 3 9 > refused quota
		account 0 0 0 0 > refused quota
		tokens 0 > 4
		# what is too much comes ahead of it
		account 0 2 1001 1 > refused arg
		account 0 2 1 1001 > refused arg
		account 0 1001 1 1 > refused arg
		account 16 2 1 1 > refused arg
		account 16 2 1001 1 > refused arg
		tick
		tokens 0 > 5
		ticks 3
		tokens 0 > 6
		account 0 3 4 0
		tokens 0 > 4
		account 0 2 4 0 > refused quota
		# the limit is still 3: two of function 0 run, one of function 1 may
		call 1 > boot 3 1 0, cold 3
		call 0 > throttled function
		answered refused > 8
	`)
}

// P18.3: Func

func TestFunc(t *testing.T) {
	script(t, `
		account 0 1000 1000 0
		account 15 9 9 9
		func 64 0 1 1 0 0 > refused arg
		func 2147483647 0 1 1 0 0 > refused arg
		func 0 16 1 1 0 0 > refused arg
		func 0 0 0 1 0 0 > refused arg
		func 0 0 4097 1 0 0 > refused arg
		func 0 0 1 0 0 0 > refused arg
		func 0 0 1 1001 0 0 > refused arg
		func 0 0 1 1 1001 0 > refused arg
		func 0 0 1 1 0 1001 > refused arg
		func 0 0 1 1 1001 1001 > refused arg
		window 0 > none
		func 63 0 1 1 0 0
		window 63 > fixed 0 10
		func 0 15 1 1 0 0
		func 1 0 4096 1000 0 1000
		func 2 0 1 1 1000 1000
		func 3 0 1 1 1 0 > refused quota
		func 3 0 1 1 0 0
		window 3 > fixed 0 10
		window 4 > none
		call 63 > throttled account
		call 0 > throttled room
		host 0 4096 > boot 1 1 0, ok
		box 1 > mem 4096 since 0
	`)
}

// wanted is the answer of a Func by the chapter's words, in a world in which there are the accounts 0, with the limit 5, and 1, and the functions 0, of account 0 with Mem 2, and 1 reserved, and 1, with 2 reserved.
func wanted(e event.Event) string {
	reserved := map[int]int{0: 2, 1: 1}[e.N] // of the others
	switch {
	case e.N >= 64, e.Account >= 16, e.Reserved > 1000, e.Keep > 1000, e.Mem < 1, e.Mem > 4096, e.Cost < 1, e.Cost > 1000:
		return "refused arg"
	case e.Account > 1:
		return "refused none"
	case e.N == 0 && (e.Account != 0 || e.Mem != 2):
		return "refused state"
	case e.N == 1 && (e.Account != 0 || e.Mem != 3):
		return "refused state"
	case e.Reserved > 0 && e.Keep > e.Reserved:
		return "refused quota"
	}
	if e.N > 1 {
		reserved = 3
	}
	if e.Account == 1 {
		reserved = 0
	}
	if reserved+e.Reserved > 5 {
		return "refused quota"
	}
	return "ok"
}

// Each error against each other one, at each bound.
func TestFuncRefused(t *testing.T) {
	world := `
		account 0 5 9 0
		account 1 5 9 0
		func 0 0 2 7 1 0
		func 1 0 3 7 2 0
	`
	c := core.New()
	play(t, c, world)
	was := see(c, all)
	n := map[string]int{}
	for _, e := range product(
		[]int{0, 1, 2, 63, 64}, []int{0, 1, 2, 15, 16}, []int{0, 1, 2, 3, 4096, 4097},
		[]int{0, 1, 1000, 1001}, []int{0, 1, 2, 3, 4, 5, 6, 1000, 1001}, []int{0, 1, 3, 1000, 1001},
	) {
		want := wanted(e)
		n[want]++
		if want == "ok" {
			c = core.New()
			play(t, c, world)
		}
		if got := told(c.Do(e)); got != want {
			t.Fatalf("%+v: %s, want %s", e, got, want)
		}
		if is := see(c, all); (is != was) != (want == "ok" && e.N > 1) {
			t.Fatalf("%+v: %s: there is\n%sand was\n%s", e, want, is, was)
		}
		if want == "ok" {
			c = core.New()
			play(t, c, world)
		}
	}
	if len(n) != 5 {
		t.Errorf("wanted are %v", n)
	}
	// Behind all of them those that there were are as before.
	for _, f := range []string{"func 0 0 2 7 1 0", "func 1 0 3 7 2 0", "func 2 0 1 1 2 0", "func 3 0 1 1 0 0"} {
		if got := ask(t, c, f); got != "ok" {
			t.Errorf("%s: %s", f, got)
		}
	}
}

// product is all Funcs of these numbers.
func product(n, account, mem, cost, reserved, keep []int) []event.Event {
	list := []event.Event{{Kind: event.Func}}
	for _, x := range []struct {
		values []int
		set    func(e *event.Event, v int)
	}{
		{n, func(e *event.Event, v int) { e.N = v }},
		{account, func(e *event.Event, v int) { e.Account = v }},
		{mem, func(e *event.Event, v int) { e.Mem = v }},
		{cost, func(e *event.Event, v int) { e.Cost = v }},
		{reserved, func(e *event.Event, v int) { e.Reserved = v }},
		{keep, func(e *event.Event, v int) { e.Keep = v }},
	} {
		var more []event.Event
		for _, e := range list {
			for _, v := range x.values {
				x.set(&e, v)
				more = append(more, e)
			}
		}
		list = more
	}
	return list
}

// Behind a Func that is refused neither Cost nor Keep nor what is reserved has turned.
func TestFuncRefusedTurnsNothing(t *testing.T) {
	script(t, `
		account 0 9 99 0
		account 1 9 99 0
		func 0 0 1 10 0 1
		func 1 0 1 12 0 0
		func 2 0 1 1 9 0
		func 3 1 1 3 0 0
		func 2 0 1 1 2 0
		host 0 2 > boot 1 0 0, ok
		booted 1
		# Keep
		func 0 0 1 999 8 9 > refused quota
		func 0 0 1 999 8 0 > refused quota
		func 0 1 1 999 0 9 > refused state
		func 0 0 2 999 0 9 > refused state
		func 0 2 1 999 0 9 > refused none
		func 0 0 1 1001 0 9 > refused arg
		tick
		boxes > 1 0 0 warm pinned
		# Cost: 10 goes ahead of 12
		func 0 0 1 10 0 0
		func 0 0 1 999 8 9 > refused quota
		func 0 0 1 999 8 0 > refused quota
		call 0 > warm 1
		done 1
		func 0 1 1 999 0 0 > refused state
		call 1 > boot 2 1 0, cold 2
		booted 2
		done 2
		call 3 > kill 1 0 0, boot 3 3 0, cold 3
		# what is reserved: none of function 0, so that seven run
		func 0 0 1 1 8 8 > refused quota
		host 1 9
		call 0 > boot 4 0 1, cold 4
		call 0 > boot 5 0 1, cold 5
		call 0 > boot 6 0 1, cold 6
		call 0 > boot 7 0 1, cold 7
		call 0 > boot 8 0 1, cold 8
		call 0 > boot 9 0 1, cold 9
		call 0 > boot 10 0 1, cold 10
		call 0 > throttled account
	`)
}

func TestFuncAnew(t *testing.T) {
	// Another Cost: what is in a cache stays worth as much as it was, what comes into it is worth the other one.
	script(t, `
		account 0 99 99 0
		func 0 0 1 1 0 0
		func 1 0 1 5 0 0
		func 2 0 1 1 0 0
		host 0 2
		call 0 > boot 1 0 0, cold 1
		call 1 > boot 2 1 0, cold 2
		booted 1
		booted 2
		done 1
		done 2
		func 0 0 1 1000 0 0
		ends 1 > 10
		call 2 > kill 1 0 0, boot 3 2 0, cold 3
	`)
	script(t, `
		account 0 99 99 0
		func 0 0 1 1 0 0
		func 1 0 1 5 0 0
		func 2 0 1 1 0 0
		host 0 2
		call 0 > boot 1 0 0, cold 1
		call 1 > boot 2 1 0, cold 2
		booted 1
		booted 2
		done 2
		func 0 0 1 1000 0 0
		done 1
		call 2 > kill 2 1 0, boot 3 2 0, cold 3
	`)
	// Another number of reserved ones, while calls run.
	script(t, `
		account 0 4 99 0
		func 0 0 1 1 0 0
		func 1 0 1 1 0 0
		host 0 99
		call 0 > boot 1 0 0, cold 1
		call 0 > boot 2 0 0, cold 2
		func 0 0 1 1 1 0
		busy 0 > 2
		call 0 > throttled function
		call 1 > boot 3 1 0, cold 3
		call 1 > boot 4 1 0, cold 4
		call 1 > throttled account
		broke 4
		func 0 0 1 1 3 0
		call 1 > throttled account
		call 0 > boot 5 0 0, cold 5
		call 0 > throttled function
		func 0 0 1 1 0 0
		call 1 > throttled account
		broke 5
		call 1 > boot 6 1 0, cold 6
	`)
	// It is still the same one: its calls, its idle times, its boot.
	script(t, `
		account 0 9 99 0
		func 0 0 1 1 0 0
		host 0 9
		learn 0 20 4
		func 0 0 1 7 3 0
		window 0 > hist 18 24
		boots 0 > 98
		till 98 > boot 6 0 0, ok
		func 0 0 1 7 0 0
		booted 6
		ends 6 > 104
	`)
}
