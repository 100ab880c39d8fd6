package play_test

import (
	"fmt"
	"maps"
	"slices"
	"testing"

	"greenhouse/api"
	"greenhouse/audit"
	"greenhouse/box"
	"greenhouse/event"
	"greenhouse/play"
	"greenhouse/reply"
)

// A witness goes through a script's steps, and knows what events, answers and commands tell. What is Pinned these don't tell: that it takes of the core of the bytes so far.
type witness struct {
	now      int64
	accounts map[int]event.Event // as they were set last
	funcs    map[int]event.Event
	hosts    map[int]int // memory
	drains   map[int]bool
	boxes    map[int]*seen
	idles    map[int][]int64
	ended    map[int]int64         // by function: when its last call came to its end
	boots    map[int]appointment   // by function
	ahead    map[int]bool          // sandboxes that were booted at such a time
	purses   map[int]int           // by account: its tokens
	colds    map[int][]int64       // by account: when calls were cold since it was set last
	last     int                   // the number of the sandbox that was booted last
	pinned   map[int]bool          // behind the step
	is       func(occasion string) // takes down what came up
	fault    func(words ...any)    // ends the test: something may not be
}

// seen is a sandbox that is there.
type seen struct {
	id, fn, host         int
	boots, calls, pinned bool
	ends                 int64 // 0: it doesn't go by itself
	until                int64 // 0: it isn't ahead of a call
}

// appointment is a boot ahead of a call, and until when what is booted then is to be there.
type appointment struct{ at, until int64 }

func newWitness() *witness {
	return &witness{
		accounts: map[int]event.Event{}, funcs: map[int]event.Event{}, hosts: map[int]int{}, drains: map[int]bool{},
		boxes: map[int]*seen{}, idles: map[int][]int64{}, ended: map[int]int64{},
		boots: map[int]appointment{}, ahead: map[int]bool{}, purses: map[int]int{}, colds: map[int][]int64{},
	}
}

func (b *seen) idle() bool { return !b.boots && !b.calls }

func (w *witness) mem(b *seen) int { return w.funcs[b.fn].Mem }

// count is how many sandboxes are such.
func (w *witness) count(is func(b *seen) bool) int {
	n := 0
	for _, b := range w.boxes {
		if is(b) {
			n++
		}
	}
	return n
}

func (w *witness) running(fn int) int {
	return w.count(func(b *seen) bool { return b.fn == fn && b.calls })
}

// free is the memory of a host that is there less that of those of its sandboxes that stay.
func (w *witness) free(host int, stays func(b *seen) bool) int {
	left := w.hosts[host]
	for _, b := range w.boxes {
		if b.host == host && stays(b) {
			left -= w.mem(b)
		}
	}
	return left
}

func all(*seen) bool { return true }

// taken tells of a sandbox that no other one may take its place.
func taken(b *seen) bool { return !b.idle() || b.pinned }

// hasRoom tells whether there is a host for a function's sandbox, if only those stay.
func (w *witness) hasRoom(fn int, stays func(b *seen) bool) bool {
	for h := range w.hosts {
		if !w.drains[h] && w.free(h, stays) >= w.funcs[fn].Mem {
			return true
		}
	}
	return false
}

// end is the end of what is idle from now on.
func (w *witness) end(fn int) int64 { return w.now + window(w.idles[fn]).End }

// Going on

// goOn knows what a step told.
func (w *witness) goOn(s audit.Step) {
	if s.Answer.Kind == reply.Refused {
		return
	}
	e := s.Event
	switch e.Kind {
	case event.Tick:
		w.now++
		for n, a := range w.accounts {
			w.purses[n] = min(w.purses[n]+a.Refill, a.Size)
		}
	case event.Account:
		if _, ok := w.accounts[e.N]; !ok {
			w.purses[e.N] = e.Size
		}
		w.purses[e.N] = min(w.purses[e.N], e.Size)
		w.accounts[e.N], w.colds[e.N] = e, nil
	case event.Func:
		w.funcs[e.N] = e
	case event.Host:
		w.hosts[e.N] = e.Size
	case event.Drain:
		w.drains[e.N] = true
		w.forget(e.N)
	case event.Fail:
		for _, b := range w.boxes {
			if b.host == e.N {
				w.leaves(b)
			}
		}
		delete(w.hosts, e.N)
		delete(w.drains, e.N)
	case event.Broke:
		w.leaves(w.boxes[e.N])
	case event.Booted:
		w.boxes[e.N].boots = false
	case event.Done:
		w.done(w.boxes[e.N])
	}
	for _, c := range s.Commands {
		w.obey(c)
	}
	maps.DeleteFunc(w.boots, func(_ int, a appointment) bool { return a.at <= w.now })
	if s.Answer.Box > 0 {
		w.begins(w.boxes[s.Answer.Box])
	}
	if s.Answer.Kind == reply.Cold {
		a := w.funcs[e.N].Account
		w.purses[a]--
		w.colds[a] = append(w.colds[a], w.now)
	}
	w.pin(s)
}

func (w *witness) obey(c reply.Command) {
	if !c.Boot {
		w.leaves(w.boxes[c.Box])
		return
	}
	w.last = c.Box
	b := &seen{id: c.Box, fn: c.Func, host: c.Host, boots: true}
	if w.ahead[c.Box] {
		b.until = w.boots[c.Func].until
	}
	w.boxes[c.Box] = b
}

func (w *witness) leaves(b *seen) {
	if b.calls {
		w.ended[b.fn] = w.now
	}
	delete(w.boxes, b.id)
	w.forget(b.host)
}

// forget: a host that drains, and on which nothing is, is gone.
func (w *witness) forget(host int) {
	if w.drains[host] && w.count(func(o *seen) bool { return o.host == host }) == 0 {
		delete(w.hosts, host)
		delete(w.drains, host)
	}
}

func (w *witness) begins(b *seen) {
	if at, ok := w.ended[b.fn]; ok && w.running(b.fn) == 0 {
		w.idles[b.fn] = append(w.idles[b.fn], w.now-at)
	}
	b.calls, b.ends = true, 0
	delete(w.boots, b.fn)
}

func (w *witness) done(b *seen) {
	b.calls = false
	w.ended[b.fn] = w.now
	if x := window(w.idles[b.fn]); x.Pre > 0 && !b.pinned && !w.drains[b.host] {
		w.boots[b.fn] = appointment{w.now + x.Pre, w.now + x.End}
	}
}

// pin knows which sandboxes are Pinned behind a step, and so which end begins, or is none any more.
func (w *witness) pin(s audit.Step) {
	for _, b := range w.boxes {
		was := b.pinned
		b.pinned = w.pinned[b.id]
		begins := s.Event.N == b.id && (s.Event.Kind == event.Booted || s.Event.Kind == event.Done)
		switch {
		case b.pinned || !b.idle():
			b.ends = 0
		case begins && b.until > 0 && s.Event.Kind == event.Booted:
			b.ends = b.until
		case begins || was:
			b.ends = w.end(b.fn)
		}
		if !b.boots {
			b.until = 0
		}
	}
}

// past is a script that was done: its steps, and behind each what is Pinned.
type past struct {
	steps  []audit.Step
	pinned []map[int]bool
}

// pasts are those that were asked for: to do each beginning of a script takes its time.
var pasts = map[string]past{}

func pastIn(t *testing.T, c climate, seed int) past {
	t.Helper()
	name := fmt.Sprint(c.name, seed)
	if p, ok := pasts[name]; ok {
		return p
	}
	list := scriptIn(c, seed+60, 5, 300)
	_, steps, _, err := play.Bytes(bytesOf(list...))
	if err != api.OK || len(steps) != len(list) {
		t.Fatalf("%d steps, %q", len(steps), err.Word())
	}
	p := past{steps: steps}
	for i := range steps {
		x, _, _, _ := play.Bytes(bytesOf(list[:i+1]...))
		p.pinned = append(p.pinned, pinnedOf(x.Boxes()))
	}
	pasts[name] = p
	return p
}

// watch lets a witness go through scripts of each climate, and asks of each step, ahead of it and behind it, whether it may be.
func watch(t *testing.T, seeds int, occasions []string, ahead, behind func(w *witness, s audit.Step)) {
	t.Helper()
	came := map[string]int{}
	eachWeather(t, seeds, func(t *testing.T, c climate, seed int) {
		p := pastIn(t, c, seed)
		w := newWitness()
		w.is = func(occasion string) { came[occasion]++ }
		for i, s := range p.steps {
			w.fault = func(words ...any) {
				t.Helper()
				t.Fatal(append(words, "\n", told(p.steps[max(0, i-9):i+1]))...)
			}
			w.pinned = p.pinned[i]
			ahead(w, s)
			w.goOn(s)
			behind(w, s)
		}
	})
	for _, o := range occasions {
		if came[o] < 10 {
			t.Errorf("%q came %d times", o, came[o])
		}
	}
}

func pinnedOf(list []box.Box) map[int]bool {
	pinned := map[int]bool{}
	for _, b := range list {
		pinned[b.ID] = b.Pinned
	}
	return pinned
}

func nothing(*witness, audit.Step) {}

// why is for which limit no call of a function may begin.
func (w *witness) why(fn int) reply.Why {
	f := w.funcs[fn]
	limit, reserved, run, shared := w.accounts[f.Account].Limit, 0, 0, 0
	for n, o := range w.funcs {
		if o.Account != f.Account {
			continue
		}
		reserved += o.Reserved
		run += w.running(n)
		if o.Reserved == 0 {
			shared += w.running(n)
		}
	}
	switch {
	case f.Reserved > 0 && w.running(fn) >= f.Reserved:
		return reply.OfFunction
	case run >= limit, f.Reserved == 0 && shared >= limit-reserved:
		return reply.OfAccount
	}
	return reply.Nothing
}

// calls tells whether a step is a call of a function that there is.
func (w *witness) calls(s audit.Step) bool {
	_, ok := w.funcs[s.Event.N]
	return s.Event.Kind == event.Call && ok
}

func begins(s audit.Step) bool { return s.Answer.Kind == reply.Warm || s.Answer.Kind == reply.Cold }

// P2: no sandbox has two calls, no host more than its memory, and no limit is broken.
func TestLimitsAreKept(t *testing.T) {
	full := func(w *witness, s audit.Step) {
		for h, size := range w.hosts {
			switch left := w.free(h, all); {
			case left < 0:
				w.fault("host", h, "has", size, "and", -left, "more")
			case left == 0:
				w.is("a host is full")
			}
		}
		for _, b := range w.boxes {
			if _, ok := w.hosts[b.host]; !ok {
				w.fault(b, "is on a host that there isn't")
			}
		}
	}
	watch(t, 6, []string{"a host is full", "of two", "just the limit", "just what is reserved"}, func(w *witness, s audit.Step) {
		if !begins(s) {
			return
		}
		if b, ok := w.boxes[s.Answer.Box]; ok && b.calls {
			w.fault("a call runs in it")
		}
		if why := w.why(s.Event.N); why != reply.Nothing {
			w.fault("it may not run:", why)
		}
		f := w.funcs[s.Event.N]
		run := w.count(func(b *seen) bool { return b.calls && w.funcs[b.fn].Account == f.Account })
		switch {
		case run+1 == w.accounts[f.Account].Limit:
			w.is("just the limit")
		case f.Reserved > 0 && w.running(s.Event.N)+1 == f.Reserved:
			w.is("just what is reserved")
		case run > 0:
			w.is("of two")
		}
	}, full)
}

// P3: each call of a function that there is has one answer, for a reason that holds.
func TestEachCallHasAnAnswer(t *testing.T) {
	occasions := []string{"warm", "cold", "throttled function", "throttled account", "throttled tokens", "throttled room", "refused none", "one that goes for it"}
	watch(t, 6, occasions, func(w *witness, s audit.Step) {
		if s.Event.Kind != event.Call {
			if begins(s) || s.Answer.Kind == reply.Throttled {
				w.fault("it is no call")
			}
			return
		}
		if !w.calls(s) {
			if s.Answer.String() != "refused none" {
				w.fault("there is no such function")
			}
			w.is("refused none")
			return
		}
		w.answer(s)
	}, nothing)
}

// answer sees that the answer of a call of a function that there is holds.
func (w *witness) answer(s audit.Step) {
	fn := s.Event.N
	f := w.funcs[fn]
	idle := w.count(func(b *seen) bool { return b.fn == fn && b.idle() })
	tokens := w.purses[f.Account]
	want := "cold"
	switch why := w.why(fn); {
	case why != reply.Nothing:
		want = reply.Answer{Kind: reply.Throttled, Why: why}.String()
	case idle > 0:
		want = "warm"
	case tokens == 0:
		want = "throttled tokens"
	case !w.hasRoom(fn, taken):
		want = "throttled room"
	}
	got := s.Answer.String()
	switch s.Answer.Kind {
	case reply.Warm:
		got = "warm"
		if b := w.boxes[s.Answer.Box]; b == nil || b.fn != fn || !b.idle() {
			w.fault("it isn't one of the function's that are warm")
		}
	case reply.Cold:
		got = "cold"
		last := s.Commands[len(s.Commands)-1]
		if w.boxes[s.Answer.Box] != nil || !last.Boot || last.Box != s.Answer.Box || last.Func != fn {
			w.fault("it isn't a new one of the function's")
		}
		if len(s.Commands) > 1 {
			w.is("one that goes for it")
		}
	}
	if got != want {
		w.fault("it is to be", want)
	}
	w.is(got)
}

// P5, of tokens: within any ticks an account's cold calls are at most its size, and what came meanwhile.
func TestTokensAreKept(t *testing.T) {
	watch(t, 6, []string{"just as many", "throttled tokens"}, nothing, func(w *witness, s audit.Step) {
		if s.Answer.Why == reply.NoTokens {
			w.is("throttled tokens")
		}
		if s.Answer.Kind != reply.Cold {
			return
		}
		a := w.accounts[w.funcs[s.Event.N].Account]
		list := w.colds[a.N]
		for i, from := range list {
			most := int64(a.Size) + int64(a.Refill)*(w.now-from)
			if n := int64(len(list) - i); n > most {
				w.fault(n, "cold calls since", from)
			} else if n == most {
				w.is("just as many")
			}
		}
	})
}

// P4: what is kept is there, doesn't go, and calls find it warm.
func TestWhatIsKept(t *testing.T) {
	occasions := []string{"finds one warm", "throttled, though kept", "all are kept", "some can't be kept", "goes with its host"}
	watch(t, 6, occasions, func(w *witness, s audit.Step) {
		for _, c := range s.Commands {
			if b := w.boxes[c.Box]; !c.Boot && b.pinned {
				if s.Event.Kind != event.Drain || s.Event.N != c.Host {
					w.fault("what is kept goes")
				}
				w.is("goes with its host")
			}
		}
		if !w.calls(s) {
			return
		}
		fn := s.Event.N
		keep := w.funcs[fn].Keep
		ready := w.count(func(b *seen) bool { return b.fn == fn && b.pinned && !b.boots })
		if ready < keep || w.running(fn) >= keep {
			return
		}
		switch {
		case s.Answer.Kind == reply.Warm:
			w.is("finds one warm")
		case s.Answer.Why == reply.OfFunction || s.Answer.Why == reply.OfAccount:
			w.is("throttled, though kept")
		default:
			w.fault("it is neither warm nor throttled by a limit")
		}
	}, func(w *witness, s audit.Step) {
		list := slices.Sorted(maps.Keys(w.funcs))
		switch s.Event.Kind {
		case event.Tick, event.Host, event.Drain, event.Fail:
		case event.Func:
			list = []int{s.Event.N}
		default:
			return
		}
		if s.Answer.Kind != reply.Refused {
			for _, fn := range list {
				w.keeps(fn)
			}
		}
	})
}

// keeps sees that as many sandboxes of a function are kept as are to be, or as there is room for.
func (w *witness) keeps(fn int) {
	keep := w.funcs[fn].Keep
	pins := w.count(func(b *seen) bool { return b.fn == fn && b.pinned })
	others := w.count(func(b *seen) bool { return b.fn == fn && !b.pinned && !w.drains[b.host] })
	switch {
	case pins > keep:
		w.fault(fn, "keeps", pins, "of", keep)
	case pins == keep && keep > 0:
		w.is("all are kept")
	case pins < keep && others > 0:
		w.fault(fn, "keeps", pins, "of", keep, "and has others")
	case pins < keep && w.hasRoom(fn, taken):
		w.fault(fn, "keeps", pins, "of", keep, "and there is room")
	case pins < keep:
		w.is("some can't be kept")
	}
}

// P5: what isn't kept goes at just its tick, and what boots ahead boots at just its own.
func TestWindowsEnd(t *testing.T) {
	occasions := []string{
		"goes at its tick", "boots at its tick", "no boot, though it is time", "goes for room",
		"goes till its boot", "goes, booted too late", "begins with its window", "begins as one ahead",
	}
	watch(t, 6, occasions, func(w *witness, s audit.Step) {
		for _, b := range w.boxes {
			if due := b.idle() && !b.pinned; due != (b.ends > 0) || due && b.ends <= w.now {
				w.fault("the end of", b.id, "is", b.ends)
			}
		}
		if s.Answer.Kind == reply.Refused {
			return
		}
		switch s.Event.Kind {
		case event.Tick:
			w.ticks(s)
		case event.Done, event.Booted:
			w.rests(s)
		case event.Drain:
		default:
			w.makesRoom(s.Commands)
		}
	}, nothing)
}

// ticks sees that a tick begins with just what is set for it; what it commands then it commands for what is kept.
func (w *witness) ticks(s audit.Step) {
	now := w.now + 1
	var want []reply.Command
	gone := map[int]bool{}
	for _, id := range slices.Sorted(maps.Keys(w.boxes)) {
		if b := w.boxes[id]; b.ends == now {
			want, gone[id] = append(want, reply.Command{Box: id, Func: b.fn, Host: b.host}), true
			w.is("goes at its tick")
		}
	}
	next := w.last + 1
	booted := map[int]int{} // memory, by host
	for _, fn := range slices.Sorted(maps.Keys(w.boots)) {
		if w.boots[fn].at != now {
			continue
		}
		h := w.fits(fn, gone, booted)
		if h < 0 || w.count(func(b *seen) bool { return b.fn == fn && !gone[b.id] }) > 0 {
			w.is("no boot, though it is time")
			continue
		}
		want = append(want, reply.Command{Boot: true, Box: next, Func: fn, Host: h})
		booted[h] += w.funcs[fn].Mem
		w.ahead[next] = true
		next++
		w.is("boots at its tick")
	}
	n := len(want)
	if len(s.Commands) < n || !slices.Equal(s.Commands[:n], want) {
		w.fault("it is to begin with", want)
	}
	w.makesRoom(s.Commands[n:])
	for _, c := range s.Commands[n:] {
		if c.Boot && !w.pinned[c.Box] {
			w.fault(c, "at no time that was set")
		}
	}
}

// fits is the host on which a function's sandbox is booted where nothing goes for it; below 0: there is none.
func (w *witness) fits(fn int, gone map[int]bool, booted map[int]int) int {
	best, least := -1, 0
	for _, h := range slices.Sorted(maps.Keys(w.hosts)) {
		free := w.free(h, func(b *seen) bool { return !gone[b.id] }) - booted[h]
		if !w.drains[h] && free >= w.funcs[fn].Mem && (best < 0 || free < least) {
			best, least = h, free
		}
	}
	return best
}

// makesRoom sees that of commands each kill is of one that may go, and makes room for a boot on its host.
func (w *witness) makesRoom(list []reply.Command) {
	for i, c := range list {
		if c.Boot {
			continue
		}
		if taken(w.boxes[c.Box]) {
			w.fault(c, "of what may not go")
		}
		if k := slices.IndexFunc(list[i:], func(c reply.Command) bool { return c.Boot }); k < 0 || list[i+k].Host != c.Host {
			w.fault(c, "for nothing")
		}
		w.is("goes for room")
	}
}

// rests sees that what has booted, or is done, goes at once just if it is to.
func (w *witness) rests(s audit.Step) {
	b := w.boxes[s.Event.N]
	if b.pinned || s.Event.Kind == event.Booted && b.calls {
		if len(s.Commands) > 0 {
			w.fault("it goes, or another one does")
		}
		return
	}
	goes := false
	switch {
	case w.drains[b.host]:
		goes = true
	case s.Event.Kind == event.Done && window(w.idles[b.fn]).Pre > 0:
		w.is("goes till its boot")
		goes = true
	case s.Event.Kind == event.Booted && b.until > 0 && b.until <= w.now:
		w.is("goes, booted too late")
		goes = true
	case s.Event.Kind == event.Booted && b.until > 0:
		w.is("begins as one ahead")
	default:
		w.is("begins with its window")
	}
	var want []reply.Command
	if goes {
		want = []reply.Command{{Box: b.id, Func: b.fn, Host: b.host}}
	}
	if !slices.Equal(s.Commands, want) {
		w.fault("it is to command", want)
	}
}
