package core_test

import (
	"fmt"
	"hash/fnv"
	"testing"

	"greenhouse/api"
	"greenhouse/box"
	"greenhouse/core"
	"greenhouse/event"
	"greenhouse/reply"
)

// dice are the same in every run of the program.
type dice uint64

func (d *dice) under(n int) int {
	*d = *d*6364136223846793005 + 1442695040888963407
	return int((uint64(*d) >> 33) % uint64(max(n, 1)))
}

func (d *dice) of(list ...int) int { return list[d.under(len(list))] }

// climate is which events come, and with which numbers at most.
type climate struct {
	name                      string
	accounts, funcs, hosts    int
	limit, size, refill       int
	mem, cost, reserved, keep int
	host                      int
	weights                   [10]int // of each kind of events
	ticks                     []int   // how many go by at one time
	serve                     int     // in how many of a hundred calls what is called has booted, and is done, at once
	wrong                     int     // in how many of a hundred events a number is any number
	accountsFirst, hostsFirst bool
}

var climates = []climate{
	{name: "few", accounts: 2, funcs: 3, hosts: 2, limit: 4, size: 5, refill: 1, mem: 3, cost: 5, reserved: 2, keep: 2, host: 9,
		weights: [10]int{8, 1, 3, 2, 1, 1, 14, 8, 2, 8}, ticks: []int{1}, wrong: 4},
	{name: "steady", accounts: 1, funcs: 3, hosts: 2, limit: 9, size: 50, refill: 9, mem: 3, cost: 9, reserved: 0, keep: 1, host: 12,
		weights: [10]int{10, 0, 1, 1, 1, 0, 10, 2, 0, 2}, ticks: []int{7, 7, 7, 7, 8, 3, 1}, serve: 95, accountsFirst: true, hostsFirst: true},
	{name: "rare", accounts: 1, funcs: 2, hosts: 1, limit: 9, size: 50, refill: 9, mem: 3, cost: 9, reserved: 0, keep: 0, host: 12,
		weights: [10]int{10, 0, 0, 0, 0, 0, 10, 1, 0, 1}, ticks: []int{250, 260, 270, 300}, serve: 95, accountsFirst: true, hostsFirst: true},
	{name: "crowded", accounts: 1, funcs: 6, hosts: 3, limit: 99, size: 99, refill: 99, mem: 7, cost: 20, reserved: 0, keep: 0, host: 30,
		weights: [10]int{2, 0, 1, 1, 0, 0, 20, 8, 1, 8}, ticks: []int{1}, serve: 60, accountsFirst: true, hostsFirst: true},
	{name: "kept", accounts: 1, funcs: 4, hosts: 3, limit: 99, size: 99, refill: 3, mem: 3, cost: 9, reserved: 0, keep: 5, host: 20,
		weights: [10]int{4, 0, 6, 3, 2, 1, 10, 10, 3, 8}, ticks: []int{1, 1, 9}, serve: 30, accountsFirst: true, hostsFirst: true},
	{name: "hosts that go", accounts: 2, funcs: 4, hosts: 4, limit: 20, size: 99, refill: 5, mem: 4, cost: 9, reserved: 3, keep: 3, host: 15,
		weights: [10]int{4, 1, 3, 8, 4, 3, 16, 8, 2, 6}, ticks: []int{1, 2, 5}, serve: 40, accountsFirst: true, hostsFirst: true},
	{name: "limits", accounts: 3, funcs: 8, hosts: 2, limit: 5, size: 3, refill: 1, mem: 2, cost: 3, reserved: 3, keep: 1, host: 40,
		weights: [10]int{4, 4, 5, 1, 0, 0, 20, 6, 1, 7}, ticks: []int{1}, serve: 0, accountsFirst: true, hostsFirst: true},
	{name: "windows", accounts: 1, funcs: 2, hosts: 2, limit: 9, size: 99, refill: 9, mem: 3, cost: 9, reserved: 0, keep: 1, host: 5,
		weights: [10]int{12, 0, 1, 1, 0, 1, 6, 4, 0, 1}, ticks: []int{5, 6, 10, 20}, serve: 90, accountsFirst: true, hostsFirst: true},
}

// weather is events of a climate, as they come to a world.
type weather struct {
	climate
	*dice
	w     world
	queue []event.Event
}

func newWeather(c climate, seed int, w world) *weather {
	d := dice(seed*7919 + 1)
	x := &weather{climate: c, dice: &d, w: w}
	if c.accountsFirst {
		for a := range c.accounts {
			x.queue = append(x.queue, event.Event{Kind: event.Account, N: a, Limit: c.limit, Size: c.size, Refill: c.refill})
		}
		for f := range c.funcs {
			x.queue = append(x.queue, event.Event{Kind: event.Func, N: f, Account: f % c.accounts, Mem: 1 + f%c.mem, Cost: 1 + f%c.cost})
		}
	}
	if c.hostsFirst {
		for h := range c.hosts {
			x.queue = append(x.queue, event.Event{Kind: event.Host, N: h, Size: c.host})
		}
	}
	return x
}

// next is the event that comes next.
func (x *weather) next() event.Event {
	if len(x.queue) == 0 {
		x.more()
	}
	e := x.queue[0]
	x.queue = x.queue[1:]
	return e
}

// heard lets what comes hang on an answer.
func (x *weather) heard(e event.Event, a reply.Answer) {
	if e.Kind != event.Call || a.Box == 0 || x.under(100) >= x.serve {
		return
	}
	if a.Kind == reply.Cold {
		x.queue = append(x.queue, event.Event{Kind: event.Booted, N: a.Box})
	}
	x.queue = append(x.queue, event.Event{Kind: event.Done, N: a.Box})
	for range x.of(x.ticks...) {
		x.queue = append(x.queue, event.Event{})
	}
}

// more puts an event, or some, to the queue.
func (x *weather) more() {
	all := 0
	for _, n := range x.weights {
		all += n
	}
	n, kind := x.under(all), 0
	for n >= x.weights[kind] {
		n -= x.weights[kind]
		kind++
	}
	e := event.Event{Kind: event.Kind(kind)}
	times := 1
	switch e.Kind {
	case event.Tick:
		times = x.of(x.ticks...)
	case event.Account:
		e.N, e.Limit, e.Size, e.Refill = x.under(x.accounts), x.under(x.limit+1), x.under(x.size+1), x.under(x.refill+1)
	case event.Func:
		e.N = x.under(x.funcs)
		e.Account, e.Mem, e.Cost = e.N%x.accounts, 1+e.N%x.mem, 1+x.under(x.cost)
		e.Reserved, e.Keep = x.under(x.reserved+1), x.under(x.keep+1)
	case event.Host:
		e.N, e.Size = x.under(x.hosts), 1+x.under(x.host)
	case event.Drain, event.Fail:
		e.N = x.under(x.hosts)
	case event.Call:
		e.N = x.under(x.funcs)
	default:
		e.N = x.box(e.Kind)
	}
	if x.under(100) < x.wrong {
		x.spoil(&e)
	}
	for range times {
		x.queue = append(x.queue, e)
	}
}

// box is a sandbox for which an event is likely, or any that there is, or was.
func (x *weather) box(k event.Kind) int {
	var likely []int
	list := x.w.Boxes()
	for _, b := range list {
		if k == event.Booted && b.State == box.Booting || k == event.Done && b.State == box.Busy {
			likely = append(likely, b.ID)
		}
	}
	if len(likely) > 0 && x.under(10) > 0 {
		return x.of(likely...)
	}
	if len(list) > 0 && x.under(4) > 0 {
		return list[x.under(len(list))].ID
	}
	return x.under(9)
}

// spoil lets one of an event's numbers be any.
func (x *weather) spoil(e *event.Event) {
	n := x.of(-1, 0, 1, 5, 16, 32, 64, 1000, 1001, 4096, 4097, event.Most, event.Most+1)
	switch x.under(6) {
	case 0:
		e.N = n
	case 1:
		e.Mem = n
	case 2:
		e.Account = n
	case 3:
		e.Keep = n
	case 4:
		e.Size = n
	case 5:
		e.Kind = event.Kind(x.under(12) - 1)
	}
}

// small is how far one has to look to see all of a climate.
var small = [3]int{9, 4, 5}

// each climate with some seeds.
func eachWeather(t *testing.T, seeds int, run func(t *testing.T, c climate, seed int)) {
	for _, c := range climates {
		for seed := range seeds {
			t.Run(fmt.Sprint(c.name, " ", seed), func(t *testing.T) { run(t, c, seed) })
		}
	}
}

// reached is to what a climate came.
type reached map[string]int

// note takes down how an event was answered, and of which kind what was commanded is.
func (r reached) note(m *model, e event.Event, a reply.Answer, list []reply.Command) {
	if word := a.String(); a.Box > 0 {
		r[answers[a.Kind]]++
	} else {
		r[word]++
	}
	for _, c := range list {
		b := m.box(c.Box)
		switch {
		case c.Boot && b.isAhead:
			w, _ := m.Window(c.Func)
			r[[]string{"", "ahead by counts", "ahead by what comes next"}[w.How]]++
		case c.Boot && b.Pinned:
			r["boot of what is kept at "+kinds[e.Kind]]++
		case !c.Boot:
			r["kill at "+kinds[e.Kind]]++
		}
	}
}

// all that the climates have to come to: else what is held against the model is worth nothing.
var toReach = []string{
	"ok", "refused arg", "refused none", "refused state", "refused quota", "warm", "cold",
	"throttled function", "throttled account", "throttled tokens", "throttled room",
	"ahead by counts", "ahead by what comes next",
	"boot of what is kept at tick", "boot of what is kept at func", "boot of what is kept at host",
	"boot of what is kept at drain", "boot of what is kept at fail", "boot of what is kept at broke",
	"kill at tick", "kill at func", "kill at drain", "kill at call", "kill at booted", "kill at done",
}

// P18.1 to P18.5, and P1: all that happens is as in the model.
func TestAsTheModel(t *testing.T) {
	r := reached{}
	eachWeather(t, 6, func(t *testing.T, c climate, seed int) {
		x, m := core.New(), newModel()
		sky := newWeather(c, seed, m)
		for range 400 {
			var e event.Event
			for more := true; more; more = len(sky.queue) > 0 {
				e = sky.next()
				want, wants := m.Do(e)
				if got := told(x.Do(e)); got != told(want, wants) {
					t.Fatalf("at %d, %+v: %s, want %s", m.Now(), e, got, told(want, wants))
				}
				r.note(m, e, want, wants)
				sky.heard(e, want)
			}
			if is, was := see(x, small), see(m, small); is != was {
				t.Fatalf("behind %+v there is\n%swant\n%s", e, is, was)
			}
			if counts(x) != counts(m) {
				t.Fatalf("behind %+v answered %v, want %v", e, counts(x), counts(m))
			}
		}
	})
	for _, word := range toReach {
		if r[word] < 5 {
			t.Errorf("%q was reached %d times", word, r[word])
		}
	}
}

// P1: an event that is refused turns nothing; nor does a call that is throttled: without these all others are answered as with them.
func TestWhatIsRefusedTurnsNothing(t *testing.T) {
	type step struct {
		e         event.Event
		told, see string
	}
	eachWeather(t, 3, func(t *testing.T, c climate, seed int) {
		c.wrong += 20
		x := core.New()
		sky := newWeather(c, seed+100, x)
		var steps []step
		for range 800 {
			e := sky.next()
			a, list := x.Do(e)
			if a.Kind != reply.Refused && a.Kind != reply.Throttled {
				steps = append(steps, step{e, told(a, list), see(x, small)})
			}
			sky.heard(e, a)
		}
		y := core.New()
		for n, s := range steps {
			if got := told(y.Do(s.e)); got != s.told {
				t.Fatalf("step %d, %+v: %s, but %s where others were refused", n, s.e, got, s.told)
			}
			if is := see(y, small); is != s.see {
				t.Fatalf("behind step %d, %+v, there is\n%sbut where others were refused\n%s", n, s.e, is, s.see)
			}
		}
	})
}

// The same events in two cores, one behind the other and turn by turn, are answered the same.
func TestTheSameTwice(t *testing.T) {
	for _, c := range climates {
		x, y := core.New(), core.New()
		sky := newWeather(c, 1, x)
		var events []event.Event
		var tells []string
		for n := range 600 {
			e := sky.next()
			a, list := x.Do(e)
			if got := told(y.Do(e)); got != told(a, list) || see(x, small) != see(y, small) || counts(x) != counts(y) {
				t.Fatalf("%s: event %d, %+v: %s and %s", c.name, n, e, told(a, list), got)
			}
			events, tells = append(events, e), append(tells, told(a, list))
			sky.heard(e, a)
		}
		z := core.New()
		for n, e := range events {
			if got := told(z.Do(e)); got != tells[n] {
				t.Fatalf("%s: event %d, %+v: %s, and then %s", c.name, n, e, tells[n], got)
			}
		}
		if see(z, all) != see(x, all) {
			t.Fatalf("%s: there is\n%sand then\n%s", c.name, see(x, all), see(z, all))
		}
	}
}

// sums is what all answers, commands and all that was to be seen came to in another run of the program.
var sums = map[string]uint64{
	"few":           0x2b5fcfe49bdf00f0,
	"steady":        0x81568b17acd1644b,
	"rare":          0xfffb793e1efcc66e,
	"crowded":       0x5e1019c93c22676a,
	"kept":          0x600243b64ec6a8fd,
	"hosts that go": 0xce6c78639ea91f32,
	"limits":        0x3817158bd76e67e,
	"windows":       0xe74275dddafa037c,
}

// The same events are answered the same in one run of the program and in another.
func TestTheSameInEachRun(t *testing.T) {
	for _, c := range climates {
		x, h := core.New(), fnv.New64a()
		sky := newWeather(c, 2, x)
		for range 600 {
			e := sky.next()
			a, list := x.Do(e)
			fmt.Fprintln(h, told(a, list))
			fmt.Fprintln(h, see(x, small))
			sky.heard(e, a)
		}
		if h.Sum64() != sums[c.name] {
			t.Errorf("%q: %#x,", c.name, h.Sum64())
		}
	}
}

// P1: whatever bytes come, events are answered as in the model.
func TestAnyBytes(t *testing.T) {
	d := dice(5)
	for range 300 {
		b := make([]byte, 200)
		for i := range b {
			b[i] = byte(d.under(12))
		}
		// An account, some hosts and functions, so that not all is refused.
		b = append([]byte{1, 0, 9, 9, 1, 3, 0, 9, 3, 1, 5, 2, 0, 0, 1, 1, 0, 0, 2, 1, 0, 2, 3, 0, 1}, b...)
		list, _, _ := event.All(b)
		x, m := core.New(), newModel()
		for n, e := range list {
			if got, want := do(t, x, e, small), told(m.Do(e)); got != want {
				t.Fatalf("%v: event %d, %+v: %s, want %s", b, n, e, got, want)
			}
			if is, was := see(x, small), see(m, small); is != was {
				t.Fatalf("%v: behind event %d, %+v, there is\n%swant\n%s", b, n, e, is, was)
			}
		}
	}
}

// outside is what is known of a core from outside, so that P2 to P5 can be asked of it.
type outside struct {
	accounts [api.MaxAccounts]event.Event // set last
	funcs    map[int]event.Event          // set last
	hosts    map[int]int                  // memory
	drains   map[int]bool
	debts    [api.MaxAccounts]int // cold calls for which no tokens came since
}

// P2 to P5, of the core alone.
func TestThroughAllLayers(t *testing.T) {
	eachWeather(t, 4, func(t *testing.T, c climate, seed int) {
		x := core.New()
		sky := newWeather(c, seed+200, x)
		o := &outside{funcs: map[int]event.Event{}, hosts: map[int]int{}, drains: map[int]bool{}}
		for n := range 1000 {
			e := sky.next()
			before := look(x)
			a, list := x.Do(e)
			after := look(x)
			for _, fault := range []string{
				o.oneCallEach(before, e, a), o.limits(before, e, a), o.reasons(x, before, e, a, list),
				o.kept(before, e, a, list), o.inTime(before, after, e, a, list),
			} {
				if fault != "" {
					t.Fatalf("event %d, %+v: %s: %s", n, e, told(a, list), fault)
				}
			}
			o.learn(x, e, a)
			if fault := o.memory(x, after); fault != "" {
				t.Fatalf("behind event %d, %+v: %s: %s", n, e, told(a, list), fault)
			}
			sky.heard(e, a)
		}
	})
}

// glance is what there is at a moment.
type glance struct {
	now   int64
	boxes map[int]box.Box
	ends  map[int]int64
	boots map[int]int64
}

func look(x *core.Core) glance {
	g := glance{x.Now(), map[int]box.Box{}, map[int]int64{}, map[int]int64{}}
	for _, b := range x.Boxes() {
		g.boxes[b.ID] = b
		if end, ok := x.Ends(b.ID); ok {
			g.ends[b.ID] = end
		}
	}
	for f := range api.MaxFuncs {
		if at, ok := x.Boots(f); ok {
			g.boots[f] = at
		}
	}
	return g
}

func (g glance) count(is func(b box.Box) bool) int {
	n := 0
	for _, b := range g.boxes {
		if is(b) {
			n++
		}
	}
	return n
}

// learn knows what was set.
func (o *outside) learn(x *core.Core, e event.Event, a reply.Answer) {
	if a.Kind == reply.Cold {
		o.debts[o.funcs[e.N].Account]++
	}
	if a.Kind != reply.Taken {
		return
	}
	switch e.Kind {
	case event.Tick:
		for i := range o.debts {
			o.debts[i] = max(0, o.debts[i]-o.accounts[i].Refill)
		}
	case event.Account:
		o.accounts[e.N], o.debts[e.N] = e, 0
	case event.Func:
		o.funcs[e.N] = e
	case event.Host:
		o.hosts[e.N] = e.Size
		delete(o.drains, e.N)
	case event.Drain:
		o.drains[e.N] = true
	case event.Fail:
		delete(o.hosts, e.N)
	}
}

// P2: no sandbox has two calls.
func (o *outside) oneCallEach(before glance, e event.Event, a reply.Answer) string {
	if b, ok := before.boxes[a.Box]; ok && a.Box > 0 && b.Runs() {
		return "a call ran in it"
	}
	return ""
}

// P2: no host has more than its memory, and what isn't used is free.
func (o *outside) memory(x *core.Core, after glance) string {
	for h, size := range o.hosts {
		used := 0
		for _, b := range after.boxes {
			if b.Host == h {
				used += b.Mem
			}
		}
		if gone := o.drains[h] && used == 0; used > size || !gone && x.Free(h) != size-used || gone && x.Free(h) != 0 {
			return fmt.Sprintf("host %d has %d, %d used, %d free", h, size, used, x.Free(h))
		}
	}
	return ""
}

// P2: none begins that is beyond a limit.
func (o *outside) limits(before glance, e event.Event, a reply.Answer) string {
	if a.Kind != reply.Warm && a.Kind != reply.Cold {
		return ""
	}
	if why := o.why(before, e.N); why != reply.Nothing {
		return "it may not run"
	}
	return ""
}

// why is for which limit no call of f may run.
func (o *outside) why(g glance, f int) reply.Why {
	fn := o.funcs[f]
	limit, reserved := o.accounts[fn.Account].Limit, 0
	for _, other := range o.funcs {
		if other.Account == fn.Account {
			reserved += other.Reserved
		}
	}
	run := func(is func(b box.Box) bool) int {
		return g.count(func(b box.Box) bool {
			return b.Runs() && o.funcs[b.Func].Account == fn.Account && is(b)
		})
	}
	if fn.Reserved > 0 && run(func(b box.Box) bool { return b.Func == f }) >= fn.Reserved {
		return reply.OfFunction
	}
	shared := run(func(b box.Box) bool { return o.funcs[b.Func].Reserved == 0 })
	if run(func(box.Box) bool { return true }) >= limit || fn.Reserved == 0 && shared >= limit-reserved {
		return reply.OfAccount
	}
	return reply.Nothing
}

// P3: each call of a function that there is has an answer, for a reason that holds.
func (o *outside) reasons(x *core.Core, before glance, e event.Event, a reply.Answer, list []reply.Command) string {
	fn, ok := o.funcs[e.N]
	if e.Kind != event.Call || !e.Right() || !ok {
		return ""
	}
	idle := before.count(func(b box.Box) bool { return b.Func == e.N && b.State == box.Warm })
	tokens, _ := x.Tokens(fn.Account)
	switch {
	case a.Kind == reply.Warm:
		if b := before.boxes[a.Box]; b.Func != e.N || b.State != box.Warm || len(list) > 0 {
			return "it wasn't warm"
		}
	case a.Kind == reply.Cold:
		if _, was := before.boxes[a.Box]; was || idle > 0 || list[len(list)-1].Box != a.Box || list[len(list)-1].Func != e.N {
			return "it isn't new, or needn't be"
		}
	case a.Kind != reply.Throttled:
		return "a call has another answer"
	case a.Why == reply.OfFunction || a.Why == reply.OfAccount:
		if o.why(before, e.N) != a.Why {
			return "it may run"
		}
	case a.Why == reply.NoTokens:
		if tokens > 0 || idle > 0 {
			return "there are tokens, or it needs none"
		}
	case tokens == 0 || idle > 0:
		return "room isn't why"
	default:
		for h, size := range o.hosts {
			for _, b := range before.boxes {
				if b.Host == h && (b.State != box.Warm || b.Pinned) {
					size -= b.Mem
				}
			}
			if !o.drains[h] && size >= fn.Mem {
				return fmt.Sprintf("host %d has room, if what is idle went", h)
			}
		}
	}
	return ""
}

// P4: what is kept is there for calls, and goes neither by itself nor for room.
func (o *outside) kept(before glance, e event.Event, a reply.Answer, list []reply.Command) string {
	for _, c := range list {
		if !c.Boot && before.boxes[c.Box].Pinned && e.Kind != event.Drain {
			return fmt.Sprint("what is kept goes: ", c)
		}
	}
	fn, ok := o.funcs[e.N]
	if e.Kind != event.Call || !e.Right() || !ok {
		return ""
	}
	kept := before.count(func(b box.Box) bool { return b.Func == e.N && b.Pinned && b.State != box.Booting })
	run := before.count(func(b box.Box) bool { return b.Func == e.N && b.Runs() })
	if kept >= fn.Keep && run < fn.Keep && (a.Kind == reply.Cold || a.Why == reply.NoTokens || a.Why == reply.NoRoom) {
		return "it isn't warm"
	}
	return ""
}

// P5: what isn't kept goes at just its end, what boots ahead boots at just its time, and cold calls are no more than tokens.
func (o *outside) inTime(before, after glance, e event.Event, a reply.Answer, list []reply.Command) string {
	if a.Kind == reply.Cold && o.debts[o.funcs[e.N].Account] >= o.accounts[o.funcs[e.N].Account].Size {
		return "more cold calls than tokens"
	}
	for id, b := range after.boxes {
		end, ok := after.ends[id]
		if idle := b.State == box.Warm && !b.Pinned; ok != idle || ok && end <= after.now {
			return fmt.Sprintf("%d ends at %d, %v", id, end, ok)
		}
	}
	if e.Kind != event.Tick || a.Kind != reply.Taken {
		return ""
	}
	for _, c := range list {
		if end, ok := before.ends[c.Box]; !c.Boot && before.boxes[c.Box].State == box.Warm && ok && end > after.now {
			// It went ahead of its end: then only for what is to be kept.
			if !keeps(o) {
				return fmt.Sprintf("%s, whose end is %d", c, end)
			}
		}
		if b := after.boxes[c.Box]; c.Boot && !b.Pinned && before.boots[c.Func] != after.now {
			return fmt.Sprintf("%s at %d", c, before.boots[c.Func])
		}
	}
	for f, at := range after.boots {
		if at <= after.now {
			return fmt.Sprintf("the boot of %d is still set for %d", f, at)
		}
	}
	return ""
}

// keeps tells whether anything is to be kept.
func keeps(o *outside) bool {
	for _, f := range o.funcs {
		if f.Keep > 0 {
			return true
		}
	}
	return false
}
