package core

import (
	"iter"

	"greenhouse/api"
	"greenhouse/box"
	"greenhouse/bucket"
	"greenhouse/event"
	"greenhouse/timer"
)

// tick lets time go by.
func (c *Core) tick() {
	if c.now == api.MaxTime {
		return
	}
	c.now++
	for _, b := range c.buckets {
		b.Tick()
	}
	for k := range c.due() {
		switch k.Kind {
		case ends:
			c.kill(c.boxes[k.ID])
		case boots:
			c.bootAhead(c.funcs[k.ID])
		}
	}
	c.keepAll()
}

// due goes through what is set for now, and takes it out.
func (c *Core) due() iter.Seq[timer.Key] {
	return func(yield func(timer.Key) bool) {
		for k, ok := c.timers.Next(c.now); ok && yield(k); k, ok = c.timers.Next(c.now) {
		}
	}
}

// bootAhead boots a sandbox ahead of a function's next call, if that takes nothing from others, and none is there.
func (c *Core) bootAhead(f *function) {
	if f.has() {
		return
	}
	if h, ok := c.hosts.Fit(f.mem); ok {
		b := c.boot(f, h)
		c.ahead[b.ID] = f.until
	}
}

// setAccount lets an account be there, or be another one.
func (c *Core) setAccount(e event.Event) api.Errno {
	if e.Size > api.MaxLimit || e.Refill > api.MaxLimit {
		return api.ErrArg
	}
	if err := c.ledger.SetAccount(e.N, e.Limit); err != api.OK {
		return err
	}
	if b, ok := c.buckets[e.N]; ok {
		b.Set(e.Size, e.Refill)
	} else {
		c.buckets[e.N] = bucket.New(e.Size, e.Refill)
	}
	return api.OK
}

// setFunc lets a function be there, or be another one, and keeps it.
func (c *Core) setFunc(e event.Event) api.Errno {
	if !isFunc(e) {
		return api.ErrArg
	}
	if _, ok := c.buckets[e.Account]; !ok {
		return api.ErrNone
	}
	f, ok := c.funcs[e.N]
	if ok && (f.account != e.Account || f.mem != e.Mem) {
		return api.ErrState
	}
	// A sandbox that is kept, and in which no call may run, is of no use.
	if e.Reserved > 0 && e.Keep > e.Reserved {
		return api.ErrQuota
	}
	if err := c.ledger.SetFunc(e.N, e.Account, e.Reserved); err != api.OK {
		return err
	}
	if !ok {
		f = newFunction(e.N, e.Account, e.Mem)
		c.funcs[e.N] = f
	}
	f.cost, f.keep = e.Cost, e.Keep
	c.keep(f)
	return api.OK
}

// isFunc tells whether an event's numbers are within a function's bounds.
func isFunc(e event.Event) bool {
	return e.N < api.MaxFuncs && e.Account < api.MaxAccounts &&
		e.Reserved <= api.MaxLimit && e.Keep <= api.MaxLimit &&
		e.Mem >= 1 && e.Mem <= api.MaxMem && e.Cost >= 1 && e.Cost <= api.MaxCost
}

// addHost lets a host be there.
func (c *Core) addHost(h, size int) api.Errno {
	if err := c.hosts.Add(h, size); err != api.OK {
		return err
	}
	c.places[h] = newPlace()
	c.keepAll()
	return api.OK
}

// drainHost lets what is on a host go, but calls come to their ends.
func (c *Core) drainHost(h int) api.Errno {
	if err := c.hosts.Drain(h); err != api.OK {
		return err
	}
	for _, b := range rising(c.places[h].boxes) {
		if b.Runs() {
			c.unpin(b)
		} else {
			c.kill(b)
		}
	}
	c.leave(h)
	c.keepAll()
	return api.OK
}

// failHost lets a host be gone, with all that is on it.
func (c *Core) failHost(h int) api.Errno {
	if !c.hosts.There(h) {
		return api.ErrNone
	}
	for _, b := range rising(c.places[h].boxes) {
		c.gone(b)
	}
	c.hosts.Fail(h)
	c.leave(h)
	c.keepAll()
	return api.OK
}

// tend lets something happen to a sandbox.
func (c *Core) tend(e event.Event) api.Errno {
	b, ok := c.boxes[e.N]
	if !ok {
		return api.ErrNone
	}
	switch e.Kind {
	case event.Booted:
		return c.booted(b)
	case event.Done:
		return c.done(b)
	}
	c.gone(b)
	c.keep(c.funcs[b.Func])
	return api.OK
}

// booted says that a sandbox has booted.
func (c *Core) booted(b *box.Box) api.Errno {
	if !b.Booted(c.now) {
		return api.ErrState
	}
	until, ok := c.ahead[b.ID]
	delete(c.ahead, b.ID)
	if !b.Idle() || b.Pinned {
		return api.OK
	}
	if !ok {
		until = c.now + c.funcs[b.Func].window().End
	}
	c.idle(b, until)
	return api.OK
}

// done says that a sandbox's call has come to its end.
func (c *Core) done(b *box.Box) api.Errno {
	if !b.Done(c.now) {
		return api.ErrState
	}
	f := c.funcs[b.Func]
	c.end(f)
	switch {
	case !c.hosts.Up(b.Host):
		c.kill(b)
	case !b.Pinned:
		c.rest(f, b)
	}
	return api.OK
}

// rest lets a sandbox be there within its function's window: from now on, or another one later.
func (c *Core) rest(f *function, b *box.Box) {
	w := f.window()
	if w.Pre <= 0 {
		c.idle(b, c.now+w.End)
		return
	}
	c.timers.Set(timer.Key{Kind: boots, ID: f.id}, c.now+w.Pre)
	f.until = c.now + w.End
	c.kill(b)
}
