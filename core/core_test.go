package core_test

import (
	"fmt"
	"math"
	"testing"

	"greenhouse/api"
	"greenhouse/core"
	"greenhouse/event"
	"greenhouse/policy"
	"greenhouse/reply"
)

// Numbers that nothing has.
var never = []int{math.MinInt, -1 << 31, -64, -1, api.MaxFuncs, api.MaxFuncs + 1, 1 << 31, 1 << 32, math.MaxInt}

func TestExample(t *testing.T) {
	script(t, `
		account 0 1 1 0
		func 0 0 2 1 0 0
		host 0 2
		call 0 > boot 1 0 0, cold 1
		boxes > 1 0 0 booting bound
		box 1 > mem 2 since 0
		call 0 > throttled account
		tokens 0 > 0
		free 0 > 0
		busy 0 > 1
		answered taken > 3
		answered cold > 1
		answered throttled > 1
	`)
}

// P18.3: New, and P18.5

func TestNew(t *testing.T) {
	for name, w := range worlds() {
		if got := see(w, all); got != "now 0\n" {
			t.Errorf("%s: of a new one is seen\n%s", name, got)
		}
		if got := counts(w); got != [7]int64{} {
			t.Errorf("%s: a new one answered %v", name, got)
		}
		if list := w.Boxes(); len(list) != 0 {
			t.Errorf("%s: Boxes of a new one are %v", name, list)
		}
	}
	script(t, `
		call 0 > refused none
		booted 1 > refused none
		broke 1 > refused none
		done 1 > refused none
		drain 0 > refused none
		fail 0 > refused none
		func 0 0 1 1 0 0 > refused none
		tick
		now > 1
		answered refused > 7
		answered taken > 1
	`)
}

// Each call may be the first one.
func TestFirstCall(t *testing.T) {
	for name, first := range map[string]func(w world) any{
		"Now":      func(w world) any { return w.Now() },
		"Boxes":    func(w world) any { return len(w.Boxes()) },
		"Ends":     func(w world) any { at, ok := w.Ends(1); return fmt.Sprint(at, ok) },
		"Boots":    func(w world) any { at, ok := w.Boots(0); return fmt.Sprint(at, ok) },
		"Window":   func(w world) any { x, ok := w.Window(0); return fmt.Sprint(x.How, x.Pre, x.End, ok) },
		"Busy":     func(w world) any { return w.Busy(0) },
		"Tokens":   func(w world) any { n, ok := w.Tokens(0); return fmt.Sprint(n, ok) },
		"Free":     func(w world) any { return w.Free(0) },
		"Answered": func(w world) any { return w.Answered(reply.Taken) },
		"Do":       func(w world) any { return told(w.Do(event.Event{Kind: event.Done, N: 1})) },
	} {
		if got, want := first(core.New()), first(newModel()); got != want {
			t.Errorf("%s of a new one is %v, want %v", name, got, want)
		}
	}
}

// One core has nothing of another one.
func TestTwoCores(t *testing.T) {
	x, y := core.New(), core.New()
	play(t, x, `
		account 0 5 5 0
		func 0 0 2 1 0 1
		host 0 9 > boot 1 0 0, ok
		call 0 > boot 2 0 0, cold 2
		ticks 3
	`)
	if got := see(y, all); got != "now 0\n" || counts(y) != [7]int64{} {
		t.Errorf("of a new one beside another one is seen\n%s", got)
	}
}

// busy is a world with much in it: sandboxes of each state, pinned and not, an end, a boot, tokens, calls that run, a host that drains.
const busy = `
	account 0 20 50 0
	func 0 0 2 1 0 0
	func 1 0 3 1 5 2
	func 2 0 1 1 0 0
	host 0 20 > boot 1 1 0, boot 2 1 0, ok
	host 3 2
	call 2 > boot 3 2 3, cold 3
	drain 3
	booted 1
	learn 0 20 4
	call 2 > boot 9 2 0, cold 9
	booted 9
	done 9
	call 1 > warm 1
	call 2 > warm 9
	call 2 > boot 10 2 0, cold 10
	booted 10
	done 10
	func 0 0 2 1 0 1 > boot 11 0 0, ok
	func 0 0 2 1 0 0
	now > 80
	boxes > 1 1 0 busy pinned; 2 1 0 booting pinned; 3 2 3 booting bound; 9 2 0 busy; 10 2 0 warm until 90; 11 0 0 booting
	boots 0 > 98
	window 0 > hist 18 24
	tokens 0 > 42
`

func TestNumbersThatThereAreNot(t *testing.T) {
	for name, w := range worlds() {
		play(t, w, busy)
		for _, n := range append(never, 32, 40, 63) {
			if at, ok := w.Ends(n); at != 0 || ok {
				t.Errorf("%s: Ends(%d) is %d, %v", name, n, at, ok)
			}
			if at, ok := w.Boots(n); at != 0 || ok {
				t.Errorf("%s: Boots(%d) is %d, %v", name, n, at, ok)
			}
			if x, ok := w.Window(n); x != (policy.Window{}) || ok {
				t.Errorf("%s: Window(%d) is %v, %v", name, n, x, ok)
			}
			if x, ok := w.Tokens(n); x != 0 || ok {
				t.Errorf("%s: Tokens(%d) is %d, %v", name, n, x, ok)
			}
			if w.Busy(n) != 0 || w.Free(n) != 0 || w.Answered(reply.Kind(n)) != 0 {
				t.Errorf("%s: of %d Busy is %d, Free %d, Answered %d", name, n, w.Busy(n), w.Free(n), w.Answered(reply.Kind(n)))
			}
		}
		for _, k := range []reply.Kind{reply.Taken - 1, reply.Throttled + 1} {
			if n := w.Answered(k); n != 0 {
				t.Errorf("%s: Answered(%d) is %d", name, k, n)
			}
		}
	}
	// The ones beside those that there are, sandboxes that are gone or still, or whose end isn't set, functions whose boot isn't.
	script(t, busy+`
		ends 0 > none
		ends 1 > none
		ends 2 > none
		ends 4 > none
		ends 8 > none
		ends 10 > 90
		ends 12 > none
		boots 1 > none
		boots 3 > none
		window 2 > fixed 0 10
		window 3 > none
		busy 1 > 1
		busy 2 > 2
		busy 3 > 0
		tokens 1 > none
		tokens 16 > none
		free 0 > 10
		free 1 > 0
		free 3 > 1
		free 32 > 0
	`)
}

func TestAnswersStay(t *testing.T) {
	c := core.New()
	play(t, c, busy)
	list := c.Boxes()
	was := fmt.Sprint(list)
	_, commands := c.Do(event.Event{Kind: event.Func, N: 3, Mem: 1, Cost: 1, Keep: 3})
	if told := fmt.Sprint(commands); told != "[boot 12 3 0 boot 13 3 0 boot 14 3 0]" {
		t.Fatal(told)
	}
	told := fmt.Sprint(commands)
	play(t, c, `
		booted 2
		done 9
		booted 11
		func 3 0 1 1 0 5 > boot 15 3 0, boot 16 3 0, ok
		drain 0 > kill 2 1 0, kill 9 2 0, kill 10 2 0, kill 11 0 0, kill 12 3 0, kill 13 3 0, kill 14 3 0, kill 15 3 0, kill 16 3 0, ok
		tick
	`)
	if fmt.Sprint(list) != was || fmt.Sprint(commands) != told {
		t.Errorf("behind later calls Boxes are %v, were %s; commands %v, were %s", list, was, commands, told)
	}
	// And nothing hangs on what becomes of them.
	x, y := core.New(), core.New()
	play(t, y, busy)
	play(t, x, busy)
	own := x.Boxes()
	for i := range own {
		own[i].Pinned, own[i].State, own[i].ID, own[i].Mem = true, 1, 7, 0
	}
	_, given := x.Do(event.Event{Kind: event.Func, N: 3, Mem: 1, Cost: 1, Keep: 3})
	clear(given[:cap(given)])
	y.Do(event.Event{Kind: event.Func, N: 3, Mem: 1, Cost: 1, Keep: 3})
	for _, l := range []string{"boxes", "broke 12", "tick", "call 3", "till 98", "booted 11", "boxes"} {
		if got, want := ask(t, x, l), ask(t, y, l); got != want {
			t.Errorf("%s tells %s, want %s", l, got, want)
		}
	}
	if see(x, all) != see(y, all) {
		t.Errorf("there is\n%swant\n%s", see(x, all), see(y, all))
	}
}

// P18.5: Answered counts by kind.
func TestAnswered(t *testing.T) {
	script(t, `
		tick
		tick
		call 0 > refused none
		account 0 2 1 0
		func 0 0 1 1 0 0
		host 0 5
		call 0 > boot 1 0 0, cold 1
		booted 1
		done 1
		call 0 > warm 1
		call 0 > throttled tokens
		call 1 > refused none
		done 1
		call 0 > warm 1
		done 1
		call 0 > warm 1
		account 16 1 1 1 > refused arg
		answered taken > 9
		answered refused > 3
		answered warm > 3
		answered cold > 1
		answered throttled > 1
	`)
}

// P18.3: events that aren't Right

func TestNotRight(t *testing.T) {
	wrong := []event.Event{
		{Kind: -1}, {Kind: event.Done + 1}, {Kind: math.MaxInt}, {Kind: math.MinInt},
		{N: 1}, {Limit: 1}, {Keep: -1}, {Kind: event.Tick, Size: 1},
		{Kind: event.Account, N: -1, Limit: 1}, {Kind: event.Account, Limit: -1}, {Kind: event.Account, Size: -1}, {Kind: event.Account, Refill: -1},
		{Kind: event.Account, Limit: event.Most + 1}, {Kind: event.Account, N: 1, Limit: 9, Mem: 1}, {Kind: event.Account, N: 1, Account: 1},
		{Kind: event.Func, Mem: 2, Cost: 1, Keep: -1}, {Kind: event.Func, Mem: 2, Cost: 1, Reserved: -1}, {Kind: event.Func, N: -1, Mem: 2, Cost: 1},
		{Kind: event.Func, Mem: 2, Cost: 1, Account: -1}, {Kind: event.Func, Mem: -2, Cost: 1}, {Kind: event.Func, Mem: 2, Cost: -1},
		{Kind: event.Func, N: 9, Mem: 2, Cost: 1, Limit: 1}, {Kind: event.Func, N: 9, Mem: 2, Cost: 1, Size: 1}, {Kind: event.Func, N: 9, Mem: 2, Cost: 1, Refill: 1},
		{Kind: event.Host, N: -1, Size: 4}, {Kind: event.Host, N: 4, Size: -1}, {Kind: event.Host, N: 4, Size: 4, Mem: 1}, {Kind: event.Host, N: 4, Size: event.Most + 1},
		{Kind: event.Drain, N: -1}, {Kind: event.Drain, Keep: 1}, {Kind: event.Fail, Size: 1}, {Kind: event.Fail, N: math.MinInt},
		{Kind: event.Call, N: -1}, {Kind: event.Call, N: event.Most + 1}, {Kind: event.Call, N: 2, Cost: 1}, {Kind: event.Call, N: 2, Limit: -1},
		{Kind: event.Booted, N: 2, Account: 1}, {Kind: event.Broke, N: 2, Reserved: 1}, {Kind: event.Done, N: 1, Refill: 1}, {Kind: event.Done, N: -1},
	}
	for name, w := range worlds() {
		for _, script := range []string{"", busy} {
			play(t, w, script)
			was, counted := see(w, all), counts(w)
			for _, e := range wrong {
				a, list := w.Do(e)
				if a != (reply.Answer{Kind: reply.Refused, Err: api.ErrArg}) || len(list) > 0 {
					t.Errorf("%s: %+v: %s", name, e, told(a, list))
				}
				if is := see(w, all); is != was || counts(w) != counted {
					t.Fatalf("%s: %+v turns, or counts %v,\n%sto\n%s", name, e, counts(w), was, is)
				}
			}
		}
	}
}

// Numbers are given as sandboxes are made, and never again.
func TestNumbers(t *testing.T) {
	script(t, `
		account 0 99 99 0
		func 0 0 1 1 0 0
		host 0 9
		call 0 > boot 1 0 0, cold 1
		broke 1
		call 0 > boot 2 0 0, cold 2
		call 0 > boot 3 0 0, cold 3
		broke 3
		broke 2
		call 0 > boot 4 0 0, cold 4
		fail 0
		host 0 9
		func 0 0 1 1 0 2 > boot 5 0 0, boot 6 0 0, ok
		drain 0 > kill 5 0 0, kill 6 0 0, ok
		host 1 2 > boot 7 0 1, boot 8 0 1, ok
	`)
}

// As many of everything as there may be, and the longest lists.
func TestMuch(t *testing.T) {
	c := core.New()
	for a := range api.MaxAccounts {
		ask(t, c, fmt.Sprint("account ", a, " 1000 1000 1000"))
	}
	for f := range api.MaxFuncs {
		c.Do(event.Event{Kind: event.Func, N: f, Account: f % api.MaxAccounts, Mem: 1, Cost: 1, Keep: 1000})
	}
	boots := 0
	for h := range api.MaxHosts {
		_, list := c.Do(event.Event{Kind: event.Host, N: h, Size: api.MaxMem})
		boots += len(list)
	}
	if n := len(c.Boxes()); boots != 64000 || n != boots {
		t.Fatalf("%d boots, %d sandboxes", boots, n)
	}
	for n := range 300 {
		if a, list := c.Do(event.Event{Kind: event.Booted, N: n + 1}); a.Kind != reply.Taken || len(list) != 0 {
			t.Fatal(a, list)
		}
		if a, _ := c.Do(event.Event{Kind: event.Call}); a != (reply.Answer{Kind: reply.Warm, Box: n + 1}) {
			t.Fatal(a)
		}
		c.Do(event.Event{})
	}
	_, list := c.Do(event.Event{Kind: event.Drain, N: 0})
	if len(list) == 0 || c.Busy(0) != 300 {
		t.Errorf("%d commands, %d calls", len(list), c.Busy(0))
	}
}
