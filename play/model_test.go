package play_test

import (
	"math/big"
	"slices"
	"strconv"

	"greenhouse/api"
	"greenhouse/audit"
	"greenhouse/box"
	"greenhouse/event"
	"greenhouse/policy"
	"greenhouse/reply"
)

// The model is the chapters' words, from bytes to lines, without any layer beneath: it has but their types. Nothing is kept that can be worked out anew.

type account struct{ limit, size, refill, tokens int }

type function struct {
	account, mem, cost, reserved, keep, often int
	ended                                     []int64 // when each of its calls came to its end
	idles                                     []int64 // all of them
	boots                                     int64   // 0: no boot is set
	until                                     int64   // of the sandbox of that boot
}

type place struct {
	size   int
	drains bool
	clock  *big.Int
}

type sandbox struct {
	id, fn, host int
	boots, calls bool // warm: neither of both; bound: both
	pinned       bool
	since        int64
	ends         int64    // 0: no end is set
	aheadUntil   int64    // 0: it isn't ahead
	worth        *big.Rat // nil: it isn't in its host's cache
}

type model struct {
	now      int64
	accounts map[int]*account
	funcs    map[int]*function
	places   map[int]*place
	boxes    []*sandbox // that are there, by rising numbers
	made     int
	commands []reply.Command
	answered map[reply.Kind]int64
}

func newModel() *model {
	return &model{
		accounts: map[int]*account{}, funcs: map[int]*function{}, places: map[int]*place{},
		answered: map[reply.Kind]int64{},
	}
}

// What is asked of all that there is

func (m *model) among(is func(b *sandbox) bool) []*sandbox {
	var list []*sandbox
	for _, b := range m.boxes {
		if is(b) {
			list = append(list, b)
		}
	}
	return list
}

// first is the one of all such with the least number, or nil.
func (m *model) first(is func(b *sandbox) bool) *sandbox {
	if list := m.among(is); len(list) > 0 {
		return list[0]
	}
	return nil
}

func (m *model) numbered(id int) *sandbox {
	return m.first(func(b *sandbox) bool { return b.id == id })
}

func (m *model) of(fn int) []*sandbox {
	return m.among(func(b *sandbox) bool { return b.fn == fn })
}

func (m *model) on(host int) []*sandbox {
	return m.among(func(b *sandbox) bool { return b.host == host })
}

func (m *model) running(fn int) int {
	return len(m.among(func(b *sandbox) bool { return b.fn == fn && b.calls }))
}

func (m *model) pins(fn int) []*sandbox {
	return m.among(func(b *sandbox) bool { return b.fn == fn && b.pinned })
}

func (m *model) isUp(host int) bool { return m.places[host] != nil && !m.places[host].drains }

func (m *model) free(host int) int {
	if m.places[host] == nil {
		return 0
	}
	left := m.places[host].size
	for _, b := range m.on(host) {
		left -= m.funcs[b.fn].mem
	}
	return left
}

// spare is all memory that a host's sandboxes may leave to others.
func (m *model) spare(host int) int {
	sum := m.free(host)
	for _, b := range m.on(host) {
		if b.worth != nil {
			sum += m.funcs[b.fn].mem
		}
	}
	return sum
}

// window is a function's.
func (m *model) window(fn int) policy.Window { return window(m.funcs[fn].idles) }

// reserved is what is reserved of an account, but for one function.
func (m *model) reserved(a, but int) int {
	sum := 0
	for n, f := range m.funcs {
		if f.account == a && n != but {
			sum += f.reserved
		}
	}
	return sum
}

// P18.1

func (m *model) command(boot bool, b *sandbox) {
	m.commands = append(m.commands, reply.Command{Boot: boot, Box: b.id, Func: b.fn, Host: b.host})
}

func (m *model) boot(fn, host int) *sandbox {
	m.made++
	b := &sandbox{id: m.made, fn: fn, host: host, boots: true, since: m.now}
	m.boxes = append(m.boxes, b)
	m.command(true, b)
	return b
}

func (m *model) isGone(b *sandbox) {
	if b.calls {
		m.funcs[b.fn].ended = append(m.funcs[b.fn].ended, m.now)
	}
	m.boxes = m.among(func(o *sandbox) bool { return o != b })
	m.leave(b.host)
}

// leave: a host that drains, and of which nothing is used, is gone.
func (m *model) leave(host int) {
	if p := m.places[host]; p != nil && p.drains && len(m.on(host)) == 0 {
		delete(m.places, host)
	}
}

func (m *model) kill(b *sandbox) {
	m.isGone(b)
	m.command(false, b)
}

func (m *model) isIdle(b *sandbox, until int64) {
	if until <= m.now {
		m.kill(b)
		return
	}
	f := m.funcs[b.fn]
	b.ends = until
	b.worth = big.NewRat(int64(min(f.often, 1000)*f.cost), int64(f.mem))
	b.worth.Add(b.worth, new(big.Rat).SetInt(m.places[b.host].clock))
}

func (b *sandbox) stays() { b.ends, b.worth = 0, nil }

// P18.2

// fit is layer 13's: the host with the least room that is enough; -1: there is none.
func (m *model) fit(mem int) int {
	best := -1
	for h := range 32 {
		if m.isUp(h) && m.free(h) >= mem && (best < 0 || m.free(h) < m.free(best)) {
			best = h
		}
	}
	return best
}

func (m *model) room(mem int) int {
	if h := m.fit(mem); h >= 0 {
		return h
	}
	for h := range 32 {
		if m.isUp(h) && m.spare(h) >= mem {
			for m.free(h) < mem {
				m.evict(h)
			}
			return h
		}
	}
	return -1
}

func (m *model) evict(host int) {
	list := m.among(func(b *sandbox) bool { return b.host == host && b.worth != nil })
	b := slices.MinFunc(list, func(a, b *sandbox) int { return a.worth.Cmp(b.worth) })
	if floor := new(big.Int).Div(b.worth.Num(), b.worth.Denom()); floor.Cmp(m.places[host].clock) > 0 {
		m.places[host].clock = floor
	}
	m.kill(b)
}

func (m *model) keep(fn int) {
	f := m.funcs[fn]
	for len(m.pins(fn)) > f.keep {
		pins := m.pins(fn)
		b := pins[len(pins)-1]
		b.pinned = false
		if !b.boots && !b.calls {
			m.isIdle(b, m.now+m.window(fn).End)
		}
	}
	for len(m.pins(fn)) < f.keep {
		b := m.pinnable(fn)
		if b == nil {
			h := m.room(f.mem)
			if h < 0 {
				return
			}
			b = m.boot(fn, h)
		}
		b.pinned = true
		b.stays()
	}
}

func (m *model) pinnable(fn int) *sandbox {
	may := func(b *sandbox) bool { return b.fn == fn && !b.pinned && m.isUp(b.host) }
	warm := m.first(func(b *sandbox) bool { return may(b) && !b.boots && !b.calls })
	boots := m.first(func(b *sandbox) bool { return may(b) && b.boots })
	busy := m.first(func(b *sandbox) bool { return may(b) && !b.boots && b.calls })
	for _, b := range []*sandbox{warm, boots, busy} {
		if b != nil {
			return b
		}
	}
	return nil
}

func (m *model) keepAll() {
	for fn := range 64 {
		if m.funcs[fn] != nil {
			m.keep(fn)
		}
	}
}

// P18.3

// do is the step by which an event happens.
func (m *model) do(e event.Event) audit.Step {
	if !right(e) {
		return audit.Step{Event: e, Answer: reply.Answer{Kind: reply.Refused, Err: api.ErrArg}}
	}
	m.commands = nil
	s := audit.Step{Event: e}
	if e.Kind == event.Call {
		s.Answer = m.call(e.N)
	} else if err := m.happen(e); err != api.OK {
		s.Answer = reply.Answer{Kind: reply.Refused, Err: err}
	}
	s.Commands = m.commands
	m.answered[s.Answer.Kind]++
	return s
}

// right is layer 16's: all numbers but those of its Kind are 0.
func right(e event.Event) bool {
	own := event.Event{Kind: e.Kind}
	switch e.Kind {
	case event.Tick:
	case event.Account:
		own.N, own.Limit, own.Size, own.Refill = e.N, e.Limit, e.Size, e.Refill
	case event.Func:
		own.N, own.Account, own.Mem, own.Cost, own.Reserved, own.Keep = e.N, e.Account, e.Mem, e.Cost, e.Reserved, e.Keep
	case event.Host:
		own.N, own.Size = e.N, e.Size
	case event.Drain, event.Fail, event.Call, event.Booted, event.Broke, event.Done:
		own.N = e.N
	default:
		return false
	}
	for _, n := range []int{e.N, e.Limit, e.Size, e.Refill, e.Account, e.Mem, e.Cost, e.Reserved, e.Keep} {
		if n < 0 || n > 2147483647 {
			return false
		}
	}
	return e == own
}

func (m *model) happen(e event.Event) api.Errno {
	switch e.Kind {
	case event.Tick:
		m.tick()
		return api.OK
	case event.Account:
		return m.setAccount(e)
	case event.Func:
		return m.setFunc(e)
	case event.Host, event.Drain, event.Fail:
		return m.turnHost(e)
	}
	b := m.numbered(e.N)
	switch {
	case b == nil:
		return api.ErrNone
	case e.Kind == event.Broke:
		m.isGone(b)
		m.keep(b.fn)
		return api.OK
	case e.Kind == event.Booted:
		return m.hasBooted(b)
	}
	return m.isDone(b)
}

func (m *model) tick() {
	if m.now == 1<<40 {
		return
	}
	m.now++
	for _, a := range m.accounts {
		a.tokens = min(a.size, a.tokens+a.refill)
	}
	for _, b := range m.among(func(b *sandbox) bool { return b.ends == m.now }) {
		m.kill(b)
	}
	for fn := range 64 {
		f := m.funcs[fn]
		if f == nil || f.boots != m.now {
			continue
		}
		f.boots = 0
		if h := m.fit(f.mem); h >= 0 && len(m.of(fn)) == 0 {
			m.boot(fn, h).aheadUntil = f.until
		}
	}
	m.keepAll()
}

func (m *model) setAccount(e event.Event) api.Errno {
	if e.Size > 1000 || e.Refill > 1000 || e.N >= 16 || e.Limit > 1000 {
		return api.ErrArg
	}
	if m.reserved(e.N, -1) > e.Limit {
		return api.ErrQuota
	}
	a := m.accounts[e.N]
	if a == nil {
		a = &account{tokens: e.Size}
		m.accounts[e.N] = a
	}
	a.limit, a.size, a.refill, a.tokens = e.Limit, e.Size, e.Refill, min(a.tokens, e.Size)
	return api.OK
}

func (m *model) setFunc(e event.Event) api.Errno {
	if e.N >= 64 || e.Account >= 16 || e.Reserved > 1000 || e.Keep > 1000 || e.Mem < 1 || e.Mem > 4096 || e.Cost < 1 || e.Cost > 1000 {
		return api.ErrArg
	}
	a := m.accounts[e.Account]
	if a == nil {
		return api.ErrNone
	}
	f := m.funcs[e.N]
	if f != nil && (f.account != e.Account || f.mem != e.Mem) {
		return api.ErrState
	}
	if e.Reserved > 0 && e.Keep > e.Reserved || m.reserved(e.Account, e.N)+e.Reserved > a.limit {
		return api.ErrQuota
	}
	if f == nil {
		f = &function{account: e.Account, mem: e.Mem}
		m.funcs[e.N] = f
	}
	f.reserved, f.cost, f.keep = e.Reserved, e.Cost, e.Keep
	m.keep(e.N)
	return api.OK
}

func (m *model) turnHost(e event.Event) api.Errno {
	p := m.places[e.N]
	switch {
	case e.Kind == event.Host && (e.N >= 32 || e.Size < 1 || e.Size > 4096):
		return api.ErrArg
	case e.Kind == event.Host && p != nil:
		return api.ErrState
	case e.Kind == event.Host:
		m.places[e.N] = &place{size: e.Size, clock: new(big.Int)}
	case p == nil:
		return api.ErrNone
	case e.Kind == event.Drain && p.drains:
		return api.ErrState
	case e.Kind == event.Drain:
		m.drain(e.N)
	default:
		for _, b := range m.on(e.N) {
			m.isGone(b)
		}
		delete(m.places, e.N)
	}
	m.keepAll()
	return api.OK
}

func (m *model) drain(host int) {
	m.places[host].drains = true
	m.leave(host)
	for _, b := range m.on(host) {
		if b.calls {
			b.pinned = false
		} else {
			m.kill(b)
		}
	}
}

func (m *model) hasBooted(b *sandbox) api.Errno {
	if !b.boots {
		return api.ErrState
	}
	b.boots, b.since = false, m.now
	if b.calls || b.pinned {
		return api.OK
	}
	until := m.now + m.window(b.fn).End
	if b.aheadUntil != 0 {
		until = b.aheadUntil
	}
	m.isIdle(b, until)
	return api.OK
}

func (m *model) isDone(b *sandbox) api.Errno {
	if b.boots || !b.calls {
		return api.ErrState
	}
	b.calls, b.since = false, m.now
	f, w := m.funcs[b.fn], m.window(b.fn)
	f.ended = append(f.ended, m.now)
	switch {
	case !m.isUp(b.host):
		m.kill(b)
	case b.pinned:
	case w.Pre > 0:
		f.boots, f.until = m.now+w.Pre, m.now+w.End
		m.kill(b)
	default:
		m.isIdle(b, m.now+w.End)
	}
	return api.OK
}

// P18.4

// throttles is layer 11's Ask: for which limit no call of a function that there is may run.
func (m *model) throttles(fn int) reply.Why {
	f := m.funcs[fn]
	run, runShared := 0, 0
	for n, o := range m.funcs {
		if o.account == f.account {
			run += m.running(n)
		}
		if o.account == f.account && o.reserved == 0 {
			runShared += m.running(n)
		}
	}
	limit := m.accounts[f.account].limit
	switch {
	case f.reserved > 0 && m.running(fn) >= f.reserved:
		return reply.OfFunction
	case run >= limit, f.reserved == 0 && runShared >= limit-m.reserved(f.account, -1):
		return reply.OfAccount
	}
	return reply.Nothing
}

func (m *model) call(fn int) reply.Answer {
	f := m.funcs[fn]
	if f == nil {
		return reply.Answer{Kind: reply.Refused, Err: api.ErrNone}
	}
	if why := m.throttles(fn); why != reply.Nothing {
		return reply.Answer{Kind: reply.Throttled, Why: why}
	}
	warm := m.among(func(b *sandbox) bool { return b.fn == fn && !b.boots && !b.calls })
	if len(warm) > 0 {
		b := slices.MaxFunc(warm, func(a, b *sandbox) int { return int(a.since - b.since) })
		m.begin(b)
		b.since = m.now
		return reply.Answer{Kind: reply.Warm, Box: b.id}
	}
	a := m.accounts[f.account]
	if a.tokens == 0 {
		return reply.Answer{Kind: reply.Throttled, Why: reply.NoTokens}
	}
	h := m.room(f.mem)
	if h < 0 {
		return reply.Answer{Kind: reply.Throttled, Why: reply.NoRoom}
	}
	a.tokens--
	b := m.boot(fn, h)
	m.begin(b)
	return reply.Answer{Kind: reply.Cold, Box: b.id}
}

func (m *model) begin(b *sandbox) {
	f := m.funcs[b.fn]
	if n := len(f.ended); n > 0 && m.running(b.fn) == 0 {
		f.idles = append(f.idles, m.now-f.ended[n-1])
	}
	f.often++
	f.boots = 0
	b.stays()
	b.calls = true
}

// P18.5

func (m *model) Now() int64 { return m.now }

func (m *model) Boxes() []box.Box {
	var list []box.Box
	for _, b := range m.boxes {
		own := box.Box{ID: b.id, Func: b.fn, Host: b.host, Mem: m.funcs[b.fn].mem, State: box.Warm, Pinned: b.pinned, Since: b.since}
		switch {
		case b.boots:
			own.State, own.Bound = box.Booting, b.calls
		case b.calls:
			own.State = box.Busy
		}
		list = append(list, own)
	}
	return list
}

func (m *model) Ends(id int) (int64, bool) {
	if b := m.numbered(id); b != nil {
		return b.ends, b.ends != 0
	}
	return 0, false
}

func (m *model) Boots(fn int) (int64, bool) {
	if f := m.funcs[fn]; f != nil {
		return f.boots, f.boots != 0
	}
	return 0, false
}

func (m *model) Window(fn int) (policy.Window, bool) {
	if m.funcs[fn] == nil {
		return policy.Window{}, false
	}
	return m.window(fn), true
}

func (m *model) Busy(fn int) int { return m.running(fn) }

func (m *model) Tokens(a int) (int, bool) {
	if m.accounts[a] == nil {
		return 0, false
	}
	return m.accounts[a].tokens, true
}

func (m *model) Free(host int) int { return m.free(host) }

func (m *model) Answered(k reply.Kind) int64 { return m.answered[k] }

// P16.2, P16.3, P20.1, P20.2

// number is the number that stands at a byte: itself, and behind which byte it ends; or an error.
func number(b []byte, at int, most uint64) (uint64, int, api.Errno) {
	n := new(big.Int)
	for i := 0; i < 10; i++ {
		if at+i >= len(b) {
			return 0, 0, api.ErrForm
		}
		c := b[at+i]
		if i > 0 && c == 0 || i == 9 && c > 1 {
			return 0, 0, api.ErrForm
		}
		n.Add(n, new(big.Int).Lsh(big.NewInt(int64(c&127)), uint(7*i)))
		if c >= 128 {
			continue
		}
		if n.Cmp(new(big.Int).SetUint64(most)) > 0 {
			return 0, 0, api.ErrArg
		}
		return n.Uint64(), at + i + 1, api.OK
	}
	return 0, 0, api.ErrForm
}

// howMany numbers an event of a Kind has.
var howMany = [10]int{0, 4, 6, 2, 1, 1, 1, 1, 1, 1}

// read is the event that stands at a byte, and behind which byte it ends; or an error.
func read(b []byte, at int) (event.Event, int, api.Errno) {
	k, at, err := number(b, at, 9)
	if err != api.OK {
		return event.Event{}, 0, err
	}
	var list [6]int
	for i := range howMany[k] {
		n, next, err := number(b, at, 2147483647)
		if err != api.OK {
			return event.Event{}, 0, err
		}
		list[i], at = int(n), next
	}
	e := event.Event{Kind: event.Kind(k), N: list[0]}
	switch e.Kind {
	case event.Account:
		e.Limit, e.Size, e.Refill = list[1], list[2], list[3]
	case event.Func:
		e.Account, e.Mem, e.Cost, e.Reserved, e.Keep = list[1], list[2], list[3], list[4], list[5]
	case event.Host:
		e.Size = list[1]
	}
	return e, at, api.OK
}

// events is all events of bytes, or those ahead of the first that is none, at which byte that begins, and the error.
func events(b []byte) ([]event.Event, int, api.Errno) {
	if len(b) > 262144 {
		return nil, 0, api.ErrMany
	}
	var list []event.Event
	for at := 0; at < len(b); {
		e, next, err := read(b, at)
		if err != api.OK {
			return list, at, err
		}
		if len(list) == 16384 {
			return list, at, api.ErrMany
		}
		list, at = append(list, e), next
	}
	return list, len(b), api.OK
}

// modelOf is a model that did events, and each step.
func modelOf(list []event.Event) (*model, []audit.Step) {
	m := newModel()
	var steps []audit.Step
	for _, e := range list {
		steps = append(steps, m.do(e))
	}
	return m, steps
}

// The words of layer 17.

func commandWords(c reply.Command) string {
	s := "kill"
	if c.Boot {
		s = "boot"
	}
	for _, n := range []int{c.Box, c.Func, c.Host} {
		s += " " + strconv.Itoa(n)
	}
	return s
}

func answerWords(a reply.Answer) string {
	switch a.Kind {
	case reply.Refused:
		return "refused " + []string{"ok", "arg", "none", "state", "quota", "form", "many"}[a.Err]
	case reply.Warm:
		return "warm " + strconv.Itoa(a.Box)
	case reply.Cold:
		return "cold " + strconv.Itoa(a.Box)
	case reply.Throttled:
		return "throttled " + []string{"", "function", "account", "tokens", "room"}[a.Why]
	}
	return "ok"
}

// linesOf is what steps tell, whose answers are Right.
func linesOf(steps []audit.Step) []string {
	var list []string
	for _, s := range steps {
		for _, c := range s.Commands {
			list = append(list, commandWords(c))
		}
		list = append(list, answerWords(s.Answer))
	}
	return list
}

// runOf is what bytes tell.
func runOf(b []byte) []string {
	events, at, err := events(b)
	_, steps := modelOf(events)
	lines := linesOf(steps)
	if err != api.OK {
		word := map[api.Errno]string{api.ErrArg: "arg", api.ErrForm: "form", api.ErrMany: "many"}[err]
		lines = append(lines, "error "+word+" at "+strconv.Itoa(at))
	}
	return lines
}
