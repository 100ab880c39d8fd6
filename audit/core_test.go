package audit_test

import (
	"testing"

	"greenhouse/api"
	"greenhouse/audit"
	"greenhouse/box"
	"greenhouse/core"
	"greenhouse/event"
	"greenhouse/reply"
)

// climate is which events come to a core, and with which numbers at most.
type climate struct {
	name               string
	funcs, hosts       int
	limit, size, fills int // of the account
	mem, keep, host    int
	reserved           int
	weights            [10]int // of each kind of events
	ticks              []int   // how many go by at one time
	serve              int     // in how many of a hundred calls what is called has booted, and is done, at once
}

var climates = []climate{
	{"few", 3, 2, 4, 5, 1, 3, 2, 9, 2, [10]int{8, 1, 3, 2, 1, 1, 14, 8, 2, 8}, []int{1}, 20},
	{"steady", 2, 2, 9, 50, 9, 3, 1, 12, 0, [10]int{10, 0, 0, 1, 1, 0, 10, 2, 0, 2}, []int{7, 7, 7, 7, 8, 3, 1}, 95},
	{"rare", 2, 1, 9, 50, 9, 3, 0, 12, 0, [10]int{10, 0, 0, 0, 0, 0, 10, 1, 0, 1}, []int{250, 260, 270, 300}, 95},
	{"crowded", 6, 3, 99, 99, 99, 7, 0, 30, 0, [10]int{2, 0, 1, 1, 0, 0, 20, 8, 1, 8}, []int{1}, 60},
	{"kept", 4, 3, 99, 99, 3, 3, 5, 20, 0, [10]int{4, 0, 6, 3, 2, 1, 10, 10, 3, 8}, []int{1, 1, 9}, 30},
	{"hosts that go", 4, 4, 20, 99, 5, 4, 3, 15, 3, [10]int{4, 1, 3, 8, 4, 3, 16, 8, 2, 6}, []int{1, 2, 5}, 40},
	{"limits", 8, 2, 5, 3, 1, 2, 1, 40, 3, [10]int{4, 4, 5, 1, 0, 0, 20, 6, 1, 7}, []int{1}, 0},
	{"all that there may be", api.MaxFuncs, api.MaxHosts, api.MaxLimit, api.MaxLimit, api.MaxLimit, 200, 9, api.MaxMem, 9, [10]int{4, 1, 4, 4, 1, 1, 30, 10, 2, 10}, []int{1, 5}, 50},
}

// weather is events of a climate, as they come to a core.
type weather struct {
	climate
	*dice
	c     *core.Core
	queue []event.Event
}

func newWeather(c climate, seed int, x *core.Core) *weather {
	d := dice(seed*104729 + 17)
	w := &weather{climate: c, dice: &d, c: x}
	w.queue = append(w.queue, event.Event{Kind: event.Account, Limit: c.limit, Size: c.size, Refill: c.fills})
	for f := range c.funcs {
		w.queue = append(w.queue, event.Event{Kind: event.Func, N: f, Mem: 1 + f%c.mem, Cost: 1 + f})
	}
	for h := range c.hosts {
		w.queue = append(w.queue, event.Event{Kind: event.Host, N: h, Size: c.host})
	}
	return w
}

// next is the event that comes next.
func (w *weather) next() event.Event {
	for len(w.queue) == 0 {
		w.more()
	}
	e := w.queue[0]
	w.queue = w.queue[1:]
	return e
}

// heard lets what comes hang on a step.
func (w *weather) heard(s audit.Step) {
	if s.Answer.Box == 0 || w.under(100) >= w.serve {
		return
	}
	if s.Answer.Kind == reply.Cold {
		w.queue = append(w.queue, event.Event{Kind: event.Booted, N: s.Answer.Box})
	}
	w.queue = append(w.queue, event.Event{Kind: event.Done, N: s.Answer.Box})
	for range w.of(w.ticks...) {
		w.queue = append(w.queue, event.Event{})
	}
}

// kind is a kind of events, by the weights.
func (w *weather) kind() event.Kind {
	sum := 0
	for _, n := range w.weights {
		sum += n
	}
	n, kind := w.under(sum), 0
	for n >= w.weights[kind] {
		n -= w.weights[kind]
		kind++
	}
	return event.Kind(kind)
}

// more puts an event, or some, to the queue.
func (w *weather) more() {
	e := event.Event{Kind: w.kind()}
	times := 1
	switch e.Kind {
	case event.Tick:
		times = w.of(w.ticks...)
	case event.Account:
		e.Limit, e.Size, e.Refill = w.under(w.limit+1), w.under(w.size+1), w.under(w.fills+1)
	case event.Func:
		e.N = w.under(w.funcs)
		e.Mem, e.Cost, e.Reserved, e.Keep = 1+e.N%w.mem, 1+w.under(99), w.under(w.reserved+1), w.under(w.keep+1)
	case event.Host:
		e.N, e.Size = w.under(w.hosts), 1+w.under(w.host)
	case event.Drain, event.Fail:
		e.N = w.under(w.hosts)
	case event.Call:
		e.N = w.under(w.funcs)
	default:
		e.N = w.box(e.Kind)
	}
	if w.under(30) == 0 {
		w.spoil(&e)
	}
	for range times {
		w.queue = append(w.queue, e)
	}
}

// box is a sandbox for which an event is likely, or any that there is, or was.
func (w *weather) box(k event.Kind) int {
	var likely []int
	list := w.c.Boxes()
	for _, b := range list {
		if k == event.Booted && b.State == box.Booting || k == event.Done && b.State == box.Busy {
			likely = append(likely, b.ID)
		}
	}
	if len(likely) > 0 && w.under(8) > 0 {
		return w.of(likely...)
	}
	if len(list) > 0 && w.under(4) > 0 {
		return list[w.under(len(list))].ID
	}
	return w.under(9)
}

// spoil lets an event's number be any, and the event still be Right.
func (w *weather) spoil(e *event.Event) {
	n := w.of(0, 1, 16, 32, 64, 1000, 1001, 4096, 4097, event.Most)
	switch e.Kind {
	case event.Tick:
	case event.Func:
		e.Mem = n
	case event.Host:
		e.Size = n
	default:
		e.N = n
	}
}

// stepBy is the step by which a core does an event.
func stepBy(c *core.Core, e event.Event) audit.Step {
	a, list := c.Do(e)
	return audit.Step{Event: e, Answer: a, Commands: list}
}

// run is the steps of a core in a climate.
func run(c climate, seed, n int) []audit.Step {
	x := core.New()
	w := newWeather(c, seed, x)
	var list []audit.Step
	for range n {
		s := stepBy(x, w.next())
		list = append(list, s)
		w.heard(s)
	}
	return list
}

// note takes down what a core came to.
func note(reached map[string]int, s audit.Step) {
	if s.Answer.Box > 0 {
		reached[[]string{reply.Warm: "warm", reply.Cold: "cold"}[s.Answer.Kind]]++
	} else {
		reached[s.Answer.String()]++
	}
	for _, c := range s.Commands {
		reached[map[bool]string{true: "boot", false: "kill"}[c.Boot]+" at "+kinds[s.Event.Kind]]++
	}
}

// toReach is what all runs together have to come to: else P19.3 wasn't tested.
var toReach = []string{
	"ok", "refused arg", "refused none", "refused state", "refused quota", "warm", "cold",
	"throttled function", "throttled account", "throttled tokens", "throttled room",
	"boot at tick", "boot at func", "boot at host", "boot at drain", "boot at fail", "boot at call", "boot at broke",
	"kill at tick", "kill at func", "kill at drain", "kill at call", "kill at booted", "kill at done",
}

// P19.3: whatever a core does may be.
func TestWhateverACoreDoes(t *testing.T) {
	reached := map[string]int{}
	for _, c := range climates {
		for seed := range 8 {
			list := run(c, seed, 1500)
			if got := audit.First(list); got >= 0 {
				t.Fatalf("%s %d: %d, %+v, of\n%s", c.name, seed, got, list[got], told(list[:got+1]))
			}
			for _, s := range list {
				note(reached, s)
			}
		}
	}
	for _, word := range toReach {
		if reached[word] < 5 {
			t.Errorf("%q was reached %d times", word, reached[word])
		}
	}
}

// P19.3, of any bytes: those that begin no event are passed over, so that rows are long.
func TestAnyBytes(t *testing.T) {
	d := dice(11)
	for range 500 {
		b := []byte{1, 0, 9, 9, 1, 3, 0, 9, 3, 1, 5, 2, 0, 0, 1, 1, 0, 0, 2, 1, 0, 2, 3, 0, 1}
		for range 600 {
			b = append(b, byte(d.of(d.under(12), 6, 9, 255)))
		}
		c := core.New()
		var list []audit.Step
		for at := 0; at < len(b); {
			e, n, err := event.Get(b[at:])
			if err == api.OK {
				list = append(list, stepBy(c, e))
			}
			at += max(n, 1)
		}
		if got := audit.First(list); got >= 0 {
			t.Fatalf("%v: %d of\n%s", b, got, told(list[:got+1]))
		}
	}
}

// P19.3, of as many sandboxes as there may be at once, which come, and go with their hosts, again and again.
func TestAFullCore(t *testing.T) {
	c := core.New()
	var list []audit.Step
	do := func(e event.Event) { list = append(list, stepBy(c, e)) }
	do(event.Event{Kind: event.Account, Limit: api.MaxLimit, Size: api.MaxLimit})
	for f := range api.MaxFuncs {
		do(event.Event{Kind: event.Func, N: f, Mem: 1, Cost: 1, Keep: api.MaxLimit})
	}
	for range 3 {
		for h := range api.MaxHosts {
			do(event.Event{Kind: event.Host, N: h, Size: api.MaxMem})
		}
		for h := range api.MaxHosts {
			do(event.Event{Kind: event.Fail, N: h})
		}
	}
	boots := 0
	for _, s := range list {
		boots += len(s.Commands)
	}
	if boots < 3*api.MaxFuncs*api.MaxLimit {
		t.Errorf("%d boots", boots)
	}
	if got := audit.First(list); got >= 0 {
		t.Errorf("%d, %+v", got, list[got].Event)
	}
}

// deep is a step that shares nothing with another one.
func deep(s audit.Step) audit.Step {
	s.Commands = append([]reply.Command(nil), s.Commands...)
	return s
}

// turn lets something of a step be another.
func turn(d *dice, s *audit.Step) {
	n := d.of(-1, 1)
	if k := len(s.Commands); k > 0 && d.under(3) > 0 {
		c := &s.Commands[d.under(k)]
		switch d.under(6) {
		case 0:
			c.Boot = !c.Boot
		case 1:
			c.Box += n
		case 2:
			c.Func += n
		case 3:
			c.Host += n
		case 4:
			s.Commands = s.Commands[:k-1]
		case 5:
			s.Commands[0], s.Commands[k-1] = s.Commands[k-1], s.Commands[0]
		}
		return
	}
	switch d.under(7) {
	case 0:
		s.Event.N += n
	case 1:
		s.Event.Kind += event.Kind(n)
	case 2:
		s.Answer.Kind += reply.Kind(n)
	case 3:
		s.Answer.Box += n
	case 4:
		s.Answer = reply.Answer{}
	case 5:
		s.Answer = reply.Answer{Kind: reply.Refused, Err: api.ErrState}
	case 6:
		s.Commands = append(s.Commands, reply.Command{Boot: n > 0, Box: d.under(20), Func: d.under(3), Host: d.under(3)})
	}
}

// Of a core's steps one that was turned is told, or one behind it, as in the model; and what is ahead of it never.
func TestStepsThatWereTurned(t *testing.T) {
	found := 0
	for _, c := range climates[:len(climates)-1] {
		for seed := range 3 {
			list := run(c, seed+50, 250)
			d := dice(seed + 1)
			for at := range list {
				was := list[at]
				list[at] = deep(was)
				turn(&d, &list[at])
				got := same(t, list)
				if got >= 0 && got < at {
					t.Fatalf("%s: %d was turned, and %d is told", c.name, at, got)
				}
				if got >= 0 {
					found++
				}
				list[at] = was
			}
			if got := same(t, list); got != -1 {
				t.Fatalf("%s: %d, though nothing was turned", c.name, got)
			}
		}
	}
	if found < 2000 {
		t.Errorf("%d were told", found)
	}
}

// The steps of one core aren't those of another: nothing is known from one list to the next.
func TestOneListAndAnother(t *testing.T) {
	a, b := run(climates[0], 1, 300), run(climates[4], 2, 300)
	for range 3 {
		for _, list := range [][]audit.Step{a, b, append(a[:100:100], b...)} {
			same(t, list)
		}
		is(t, a, -1)
		is(t, b, -1)
	}
}
