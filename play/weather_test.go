package play_test

import (
	"fmt"
	"testing"

	"greenhouse/audit"
	"greenhouse/event"
	"greenhouse/reply"
)

// dice are the same in every run of the program.
type dice uint64

func (d *dice) under(n int) int {
	*d = *d*6364136223846793005 + 1442695040888963407
	return int((uint64(*d) >> 33) % uint64(max(n, 1)))
}

func (d *dice) of(list ...int) int { return list[d.under(len(list))] }

// climate is which events come, and with which numbers at most.
type climate struct {
	name                      string
	accounts, funcs, hosts    int
	limit, size, refill       int
	mem, cost, reserved, keep int
	host                      int
	weights                   [10]int // of each kind of events
	ticks                     []int   // how many go by at one time
	serve                     int     // in how many of a hundred calls what is called has booted, and is done, at once
	bare                      bool    // nothing is there at first
}

var climates = []climate{
	{name: "few", accounts: 2, funcs: 3, hosts: 2, limit: 4, size: 5, refill: 1, mem: 3, cost: 5, reserved: 2, keep: 2, host: 9,
		weights: [10]int{8, 1, 3, 2, 1, 1, 14, 8, 2, 8}, ticks: []int{1}, bare: true},
	{name: "steady", accounts: 1, funcs: 3, hosts: 2, limit: 9, size: 50, refill: 9, mem: 3, cost: 9, keep: 1, host: 12,
		weights: [10]int{10, 0, 1, 1, 1, 0, 10, 2, 0, 2}, ticks: []int{7, 7, 7, 7, 8, 3, 1}, serve: 95},
	{name: "rare", accounts: 1, funcs: 2, hosts: 1, limit: 9, size: 50, refill: 9, mem: 3, cost: 9, host: 12,
		weights: [10]int{10, 0, 0, 0, 0, 0, 10, 1, 0, 1}, ticks: []int{250, 260, 270, 300}, serve: 95},
	{name: "crowded", accounts: 1, funcs: 6, hosts: 3, limit: 99, size: 99, refill: 99, mem: 7, cost: 20, host: 30,
		weights: [10]int{2, 0, 1, 1, 0, 0, 20, 8, 1, 8}, ticks: []int{1}, serve: 60},
	{name: "kept", accounts: 1, funcs: 4, hosts: 3, limit: 99, size: 99, refill: 3, mem: 3, cost: 9, keep: 5, host: 20,
		weights: [10]int{4, 0, 6, 3, 2, 1, 10, 10, 3, 8}, ticks: []int{1, 1, 9}, serve: 30},
	{name: "hosts that go", accounts: 2, funcs: 4, hosts: 4, limit: 20, size: 99, refill: 5, mem: 4, cost: 9, reserved: 3, keep: 3, host: 15,
		weights: [10]int{4, 1, 3, 8, 4, 3, 16, 8, 2, 6}, ticks: []int{1, 2, 5}, serve: 40},
	{name: "limits", accounts: 3, funcs: 8, hosts: 2, limit: 5, size: 3, refill: 1, mem: 2, cost: 3, reserved: 3, keep: 1, host: 40,
		weights: [10]int{4, 4, 5, 1, 0, 0, 20, 6, 1, 7}, ticks: []int{1}},
	{name: "one at a time", accounts: 1, funcs: 2, hosts: 2, limit: 9, size: 99, refill: 9, mem: 3, cost: 9, keep: 1, host: 5,
		weights: [10]int{12, 0, 1, 1, 0, 1, 6, 4, 0, 1}, ticks: []int{5, 6, 10, 20}, serve: 90},
	{name: "late", accounts: 1, funcs: 2, hosts: 2, limit: 9, size: 99, refill: 9, mem: 3, cost: 9, host: 5,
		weights: [10]int{6, 0, 0, 0, 0, 0, 12, 3, 0, 1}, ticks: []int{3}, serve: 97},
}

// weather is events of a climate, as they come to a model.
type weather struct {
	climate
	*dice
	m     *model
	wrong int // in how many of a hundred events a number is any number
	queue []event.Event
}

func newWeather(c climate, seed, wrong int) *weather {
	d := dice(seed*15485863 + 29)
	w := &weather{climate: c, dice: &d, m: newModel(), wrong: wrong}
	if c.bare {
		return w
	}
	for a := range c.accounts {
		w.queue = append(w.queue, event.Event{Kind: event.Account, N: a, Limit: c.limit, Size: c.size, Refill: c.refill})
	}
	for f := range c.funcs {
		w.queue = append(w.queue, event.Event{Kind: event.Func, N: f, Account: f % c.accounts, Mem: 1 + f%c.mem, Cost: 1 + f%c.cost})
	}
	for h := range c.hosts {
		w.queue = append(w.queue, event.Event{Kind: event.Host, N: h, Size: c.host})
	}
	return w
}

// scriptIn is so many events of a climate.
func scriptIn(c climate, seed, wrong, n int) []event.Event {
	w := newWeather(c, seed, wrong)
	var list []event.Event
	for range n {
		for len(w.queue) == 0 {
			w.more()
		}
		e := w.queue[0]
		w.queue = w.queue[1:]
		w.heard(w.m.do(e))
		list = append(list, e)
	}
	return list
}

// heard lets what comes hang on a step.
func (w *weather) heard(s audit.Step) {
	if s.Answer.Box == 0 || w.under(100) >= w.serve {
		return
	}
	if s.Answer.Kind == reply.Cold {
		w.queue = append(w.queue, event.Event{Kind: event.Booted, N: s.Answer.Box})
	}
	w.queue = append(w.queue, event.Event{Kind: event.Done, N: s.Answer.Box})
	for range w.of(w.ticks...) {
		w.queue = append(w.queue, event.Event{})
	}
}

// kind is a kind of events, by the weights.
func (w *weather) kind() event.Kind {
	sum := 0
	for _, n := range w.weights {
		sum += n
	}
	n, kind := w.under(sum), 0
	for n >= w.weights[kind] {
		n -= w.weights[kind]
		kind++
	}
	return event.Kind(kind)
}

// more puts an event, or some, to the queue.
func (w *weather) more() {
	e := event.Event{Kind: w.kind()}
	times := 1
	switch e.Kind {
	case event.Tick:
		times = w.of(w.ticks...)
	case event.Account:
		e.N, e.Limit, e.Size, e.Refill = w.under(w.accounts), w.under(w.limit+1), w.under(w.size+1), w.under(w.refill+1)
	case event.Func:
		e.N = w.under(w.funcs)
		e.Account, e.Mem, e.Cost = e.N%w.accounts, 1+e.N%w.mem, 1+w.under(w.cost)
		e.Reserved, e.Keep = w.under(w.reserved+1), w.under(w.keep+1)
	case event.Host:
		e.N, e.Size = w.under(w.hosts), 1+w.under(w.host)
	case event.Drain, event.Fail:
		e.N = w.under(w.hosts)
	case event.Call:
		e.N = w.under(w.funcs)
	default:
		e.N = w.box(e.Kind)
	}
	if w.under(100) < w.wrong {
		w.spoil(&e)
	}
	for range times {
		w.queue = append(w.queue, e)
	}
}

// box is a sandbox for which an event is likely, or any that there is, or was.
func (w *weather) box(k event.Kind) int {
	likely := w.m.among(func(b *sandbox) bool {
		return k == event.Booted && b.boots || k == event.Done && b.calls && !b.boots
	})
	if len(likely) > 0 && w.under(10) > 0 {
		return likely[w.under(len(likely))].id
	}
	if n := len(w.m.boxes); n > 0 && w.under(4) > 0 {
		return w.m.boxes[w.under(n)].id
	}
	return w.under(9)
}

// spoil lets one of an event's numbers be any, and the event still be such as bytes tell.
func (w *weather) spoil(e *event.Event) {
	list := []*int{&e.N, &e.Limit, &e.Size, &e.Refill}
	switch e.Kind {
	case event.Tick:
		return
	case event.Account:
	case event.Func:
		list = []*int{&e.N, &e.Account, &e.Mem, &e.Cost, &e.Reserved, &e.Keep}
	case event.Host:
		list = []*int{&e.N, &e.Size}
	default:
		list = list[:1]
	}
	*list[w.under(len(list))] = w.of(0, 1, 5, 16, 32, 64, 1000, 1001, 4096, 4097, event.Most)
}

// eachWeather is each climate with some seeds.
func eachWeather(t *testing.T, seeds int, run func(t *testing.T, c climate, seed int)) {
	for _, c := range climates {
		for seed := range seeds {
			t.Run(fmt.Sprint(c.name, " ", seed), func(t *testing.T) { run(t, c, seed) })
		}
	}
}

// reached is to what scripts came.
type reached map[string]int

func (r reached) note(steps []audit.Step) {
	for _, s := range steps {
		switch word := s.Answer.String(); s.Answer.Kind {
		case reply.Warm:
			r["warm"]++
		case reply.Cold:
			r["cold"]++
		case reply.Throttled:
			r[word]++
		default:
			r[kinds[s.Event.Kind]+" "+word]++
		}
		for _, c := range s.Commands {
			r[map[bool]string{true: "boot", false: "kill"}[c.Boot]+" at "+kinds[s.Event.Kind]]++
		}
		if len(s.Commands) > 2 {
			r["many commands"]++
		}
	}
}

// lacks is what scripts have to come to, but didn't so often.
func (r reached) lacks(least int) []string {
	var list []string
	for _, word := range []string{
		"tick ok", "account ok", "func ok", "host ok", "drain ok", "fail ok", "booted ok", "broke ok", "done ok",
		"account refused arg", "account refused quota",
		"func refused arg", "func refused none", "func refused state", "func refused quota",
		"host refused arg", "host refused state", "drain refused none", "drain refused state", "fail refused none",
		"call refused none", "booted refused none", "booted refused state", "broke refused none", "done refused none", "done refused state",
		"warm", "cold", "throttled function", "throttled account", "throttled tokens", "throttled room",
		"boot at tick", "boot at func", "boot at host", "boot at drain", "boot at fail", "boot at call", "boot at broke",
		"kill at tick", "kill at func", "kill at drain", "kill at call", "kill at booted", "kill at done", "many commands",
	} {
		if r[word] < least {
			list = append(list, fmt.Sprint(word, " ", r[word]))
		}
	}
	return list
}
