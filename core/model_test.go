package core_test

import (
	"math/big"
	"slices"

	"greenhouse/api"
	"greenhouse/box"
	"greenhouse/event"
	"greenhouse/histo"
	"greenhouse/policy"
	"greenhouse/reply"
	"greenhouse/ring"
)

// The model is all that happens by the chapter's words: everything stands in plain lists, is gone through anew whenever it is asked, and nothing is kept that can be worked out. Of the layers beneath it has but the windows.

type mAccount struct {
	there                       bool
	limit, size, refill, tokens int
}

type mFunc struct {
	there                                     bool
	account, mem, cost, reserved, keep, often int
	ended                                     bool
	last                                      int64
	h                                         *histo.Histo
	r                                         *ring.Ring
	boots                                     bool
	boot, until                               int64
}

type mHost struct {
	there, drains bool
	size          int
	clock         *big.Int
}

type mBox struct {
	box.Box
	ends    bool
	end     int64
	isAhead bool
	ahead   int64
	worth   *big.Rat // nil: it is in no cache
}

type model struct {
	now      int64
	last     int
	accounts [api.MaxAccounts]mAccount
	funcs    [api.MaxFuncs]mFunc
	hosts    [api.MaxHosts]mHost
	boxes    []*mBox // by rising numbers
	out      []reply.Command
	answered [5]int64
}

func newModel() *model { return &model{} }

// What is to be seen

func (m *model) Now() int64 { return m.now }

func (m *model) Boxes() []box.Box {
	var list []box.Box
	for _, b := range m.boxes {
		list = append(list, b.Box)
	}
	return list
}

func (m *model) Ends(id int) (int64, bool) {
	if b := m.box(id); b != nil && b.ends {
		return b.end, true
	}
	return 0, false
}

func (m *model) Boots(f int) (int64, bool) {
	if m.hasFunc(f) && m.funcs[f].boots {
		return m.funcs[f].boot, true
	}
	return 0, false
}

func (m *model) Window(f int) (policy.Window, bool) {
	if !m.hasFunc(f) {
		return policy.Window{}, false
	}
	return policy.Of(m.funcs[f].h, m.funcs[f].r), true
}

func (m *model) Busy(f int) int {
	return m.count(func(b *mBox) bool { return b.Func == f && runs(b) })
}

func (m *model) Tokens(a int) (int, bool) {
	if a < 0 || a >= api.MaxAccounts || !m.accounts[a].there {
		return 0, false
	}
	return m.accounts[a].tokens, true
}

func (m *model) Free(h int) int {
	if h < 0 || h >= api.MaxHosts || !m.hosts[h].there {
		return 0
	}
	free := m.hosts[h].size
	for _, b := range m.boxes {
		if b.Host == h {
			free -= b.Mem
		}
	}
	return free
}

func (m *model) Answered(k reply.Kind) int64 {
	if k < 0 || int(k) >= len(m.answered) {
		return 0
	}
	return m.answered[k]
}

// What there is

func (m *model) hasFunc(f int) bool { return f >= 0 && f < api.MaxFuncs && m.funcs[f].there }

func (m *model) up(h int) bool { return m.hosts[h].there && !m.hosts[h].drains }

func (m *model) box(id int) *mBox {
	for _, b := range m.boxes {
		if b.ID == id {
			return b
		}
	}
	return nil
}

func (m *model) count(is func(b *mBox) bool) int {
	n := 0
	for _, b := range m.boxes {
		if is(b) {
			n++
		}
	}
	return n
}

func runs(b *mBox) bool { return b.State == box.Busy || b.State == box.Booting && b.Bound }

// end is until when a sandbox of f is to be there, behind now.
func (m *model) end(f int) int64 {
	w, _ := m.Window(f)
	return m.now + w.End
}

// What is done

func (m *model) boot(f, h int) *mBox {
	m.last++
	b := &mBox{Box: box.Box{ID: m.last, Func: f, Host: h, Mem: m.funcs[f].mem, State: box.Booting, Since: m.now}}
	m.boxes = append(m.boxes, b)
	m.out = append(m.out, reply.Command{Boot: true, Box: b.ID, Func: f, Host: h})
	return b
}

func (m *model) gone(b *mBox) {
	if runs(b) {
		m.funcs[b.Func].ended, m.funcs[b.Func].last = true, m.now
	}
	m.boxes = slices.DeleteFunc(m.boxes, func(o *mBox) bool { return o == b })
	if m.hosts[b.Host].drains && m.count(func(o *mBox) bool { return o.Host == b.Host }) == 0 {
		m.hosts[b.Host] = mHost{}
	}
}

func (m *model) kill(b *mBox) {
	m.gone(b)
	m.out = append(m.out, reply.Command{Box: b.ID, Func: b.Func, Host: b.Host})
}

func (m *model) idle(b *mBox, until int64) {
	if until <= m.now {
		m.kill(b)
		return
	}
	f := m.funcs[b.Func]
	b.worth = big.NewRat(int64(f.often)*int64(f.cost), int64(b.Mem))
	b.worth.Add(b.worth, new(big.Rat).SetInt(m.hosts[b.Host].clock))
	b.ends, b.end = true, until
}

// hold: it is in no cache, and has no end.
func hold(b *mBox) { b.worth, b.ends, b.end = nil, false, 0 }

func (m *model) fit(mem int) (int, bool) {
	best, found := 0, false
	for h := api.MaxHosts - 1; h >= 0; h-- {
		if m.up(h) && m.Free(h) >= mem && (!found || m.Free(h) <= m.Free(best)) {
			best, found = h, true
		}
	}
	return best, found
}

// least is the one of a host's cache that goes first.
func (m *model) least(h int) *mBox {
	var least *mBox
	for _, b := range m.boxes {
		if b.Host == h && b.worth != nil && (least == nil || b.worth.Cmp(least.worth) < 0) {
			least = b
		}
	}
	return least
}

func (m *model) room(mem int) (int, bool) {
	if h, ok := m.fit(mem); ok {
		return h, true
	}
	for h := range m.hosts {
		may := m.Free(h)
		for _, b := range m.boxes {
			if b.Host == h && b.State == box.Warm && !b.Pinned {
				may += b.Mem
			}
		}
		if !m.up(h) || may < mem {
			continue
		}
		for m.Free(h) < mem {
			b := m.least(h)
			whole := new(big.Int).Quo(b.worth.Num(), b.worth.Denom())
			if whole.Cmp(m.hosts[h].clock) > 0 {
				m.hosts[h].clock = whole
			}
			m.kill(b)
		}
		return h, true
	}
	return 0, false
}

func (m *model) keep(f int) {
	fn := &m.funcs[f]
	if !fn.there {
		return
	}
	pinned := func() int { return m.count(func(b *mBox) bool { return b.Func == f && b.Pinned }) }
	for pinned() > fn.keep {
		for _, b := range slices.Backward(m.boxes) {
			if b.Func == f && b.Pinned {
				b.Pinned = false
				if b.State == box.Warm {
					m.idle(b, m.end(f))
				}
				break
			}
		}
	}
	for pinned() < fn.keep {
		b := m.toPin(f)
		if b == nil {
			h, ok := m.room(fn.mem)
			if !ok {
				return
			}
			b = m.boot(f, h)
		}
		b.Pinned = true
		hold(b)
	}
}

func (m *model) toPin(f int) *mBox {
	for _, s := range []box.State{box.Warm, box.Booting, box.Busy} {
		for _, b := range m.boxes {
			if b.Func == f && !b.Pinned && m.up(b.Host) && b.State == s {
				return b
			}
		}
	}
	return nil
}

func (m *model) keepAll() {
	for f := range m.funcs {
		m.keep(f)
	}
}

// of is all sandboxes of a host.
func (m *model) of(h int) []*mBox {
	var list []*mBox
	for _, b := range m.boxes {
		if b.Host == h {
			list = append(list, b)
		}
	}
	return list
}

// What happens

func (m *model) Do(e event.Event) (reply.Answer, []reply.Command) {
	if !e.Right() {
		return reply.Answer{Kind: reply.Refused, Err: api.ErrArg}, nil
	}
	m.out = nil
	var a reply.Answer
	if e.Kind == event.Call {
		a = m.call(e.N)
	} else if err := m.turn(e); err != api.OK {
		a = reply.Answer{Kind: reply.Refused, Err: err}
	}
	m.answered[a.Kind]++
	return a, m.out
}

func (m *model) turn(e event.Event) api.Errno {
	there := e.N < api.MaxHosts && m.hosts[min(e.N, api.MaxHosts-1)].there
	switch e.Kind {
	case event.Tick:
		m.tick()
	case event.Account:
		return m.account(e)
	case event.Func:
		return m.function(e)
	case event.Host:
		switch {
		case e.N >= api.MaxHosts, e.Size < 1, e.Size > api.MaxMem:
			return api.ErrArg
		case there:
			return api.ErrState
		}
		m.hosts[e.N] = mHost{there: true, size: e.Size, clock: new(big.Int)}
		m.keepAll()
	case event.Drain:
		switch {
		case !there:
			return api.ErrNone
		case m.hosts[e.N].drains:
			return api.ErrState
		}
		m.drain(e.N)
	case event.Fail:
		if !there {
			return api.ErrNone
		}
		for _, b := range m.of(e.N) {
			m.gone(b)
		}
		m.hosts[e.N] = mHost{}
		m.keepAll()
	default:
		if b := m.box(e.N); b != nil {
			return m.tend(e.Kind, b)
		}
		return api.ErrNone
	}
	return api.OK
}

func (m *model) tick() {
	if m.now == api.MaxTime {
		return
	}
	m.now++
	for i := range m.accounts {
		a := &m.accounts[i]
		a.tokens = min(a.tokens+a.refill, a.size)
	}
	for _, b := range slices.Clone(m.boxes) {
		if b.ends && b.end == m.now {
			m.kill(b)
		}
	}
	for i := range m.funcs {
		f := &m.funcs[i]
		if !f.boots || f.boot != m.now {
			continue
		}
		f.boots, f.boot = false, 0
		h, ok := m.fit(f.mem)
		if ok && m.count(func(b *mBox) bool { return b.Func == i }) == 0 {
			b := m.boot(i, h)
			b.isAhead, b.ahead = true, f.until
		}
	}
	m.keepAll()
}

func (m *model) account(e event.Event) api.Errno {
	if max(e.Size, e.Refill, e.Limit) > api.MaxLimit || e.N >= api.MaxAccounts {
		return api.ErrArg
	}
	if m.reserved(e.N) > e.Limit {
		return api.ErrQuota
	}
	was := m.accounts[e.N]
	is := mAccount{there: true, limit: e.Limit, size: e.Size, refill: e.Refill, tokens: e.Size}
	if was.there {
		is.tokens = min(was.tokens, e.Size)
	}
	m.accounts[e.N] = is
	return api.OK
}

// reserved is what is reserved of an account.
func (m *model) reserved(a int) int {
	n := 0
	for _, f := range m.funcs {
		if f.there && f.account == a {
			n += f.reserved
		}
	}
	return n
}

func (m *model) function(e event.Event) api.Errno {
	switch {
	case e.N >= api.MaxFuncs, e.Account >= api.MaxAccounts, max(e.Reserved, e.Keep) > api.MaxLimit,
		e.Mem < 1, e.Mem > api.MaxMem, e.Cost < 1, e.Cost > api.MaxCost:
		return api.ErrArg
	case !m.accounts[e.Account].there:
		return api.ErrNone
	}
	f := &m.funcs[e.N]
	switch {
	case f.there && (f.account != e.Account || f.mem != e.Mem):
		return api.ErrState
	case e.Reserved != 0 && e.Keep > e.Reserved:
		return api.ErrQuota
	case m.reserved(e.Account)-f.reserved+e.Reserved > m.accounts[e.Account].limit:
		return api.ErrQuota
	}
	if !f.there {
		*f = mFunc{there: true, account: e.Account, mem: e.Mem, h: histo.New(), r: ring.New()}
	}
	f.cost, f.reserved, f.keep = e.Cost, e.Reserved, e.Keep
	m.keep(e.N)
	return api.OK
}

func (m *model) drain(h int) {
	m.hosts[h].drains = true
	list := m.of(h)
	if len(list) == 0 {
		m.hosts[h] = mHost{}
	}
	for _, b := range list {
		if runs(b) {
			b.Pinned = false
		} else {
			m.kill(b)
		}
	}
	m.keepAll()
}

func (m *model) tend(k event.Kind, b *mBox) api.Errno {
	switch k {
	case event.Booted:
		return m.booted(b)
	case event.Broke:
		m.gone(b)
		m.keep(b.Func)
		return api.OK
	}
	return m.done(b)
}

func (m *model) booted(b *mBox) api.Errno {
	if b.State != box.Booting {
		return api.ErrState
	}
	b.Since = m.now
	if b.Bound {
		b.Bound, b.State = false, box.Busy
		return api.OK
	}
	b.State = box.Warm
	switch {
	case b.Pinned:
	case b.isAhead:
		m.idle(b, b.ahead)
	default:
		m.idle(b, m.end(b.Func))
	}
	return api.OK
}

func (m *model) done(b *mBox) api.Errno {
	if b.State != box.Busy {
		return api.ErrState
	}
	b.State, b.Since = box.Warm, m.now
	f := &m.funcs[b.Func]
	f.ended, f.last = true, m.now
	w := policy.Of(f.h, f.r)
	switch {
	case !m.up(b.Host):
		m.kill(b)
	case b.Pinned:
	case w.Pre > 0:
		f.boots, f.boot, f.until = true, m.now+w.Pre, m.now+w.End
		m.kill(b)
	default:
		m.idle(b, m.now+w.End)
	}
	return api.OK
}

// may tells why a call of f may not begin, by what is reserved and by the account's limit.
func (m *model) may(f int) reply.Why {
	fn := m.funcs[f]
	limit := m.accounts[fn.account].limit
	all := m.count(func(b *mBox) bool { return m.funcs[b.Func].account == fn.account && runs(b) })
	shared := m.count(func(b *mBox) bool {
		return m.funcs[b.Func].account == fn.account && m.funcs[b.Func].reserved == 0 && runs(b)
	})
	switch {
	case fn.reserved != 0 && m.Busy(f) >= fn.reserved:
		return reply.OfFunction
	case all >= limit, fn.reserved == 0 && shared >= limit-m.reserved(fn.account):
		return reply.OfAccount
	}
	return reply.Nothing
}

func (m *model) call(f int) reply.Answer {
	if !m.hasFunc(f) {
		return reply.Answer{Kind: reply.Refused, Err: api.ErrNone}
	}
	if why := m.may(f); why != reply.Nothing {
		return reply.Answer{Kind: reply.Throttled, Why: why}
	}
	var best *mBox
	for _, b := range m.boxes {
		if b.Func == f && b.State == box.Warm && (best == nil || b.Since > best.Since) {
			best = b
		}
	}
	fn := &m.funcs[f]
	if best != nil {
		m.begin(fn, m.Busy(f), best)
		return reply.Answer{Kind: reply.Warm, Box: best.ID}
	}
	a := &m.accounts[fn.account]
	if a.tokens == 0 {
		return reply.Answer{Kind: reply.Throttled, Why: reply.NoTokens}
	}
	h, ok := m.room(fn.mem)
	if !ok {
		return reply.Answer{Kind: reply.Throttled, Why: reply.NoRoom}
	}
	a.tokens--
	b := m.boot(f, h)
	m.begin(fn, m.Busy(f), b)
	return reply.Answer{Kind: reply.Cold, Box: b.ID}
}

func (m *model) begin(f *mFunc, run int, b *mBox) {
	if run == 0 && f.ended {
		f.h.Add(m.now - f.last)
		f.r.Push(m.now - f.last)
	}
	f.often = min(f.often+1, api.MaxFreq)
	f.boots, f.boot = false, 0
	hold(b)
	if b.State == box.Warm {
		b.State, b.Since = box.Busy, m.now
	} else {
		b.Bound = true
	}
}
