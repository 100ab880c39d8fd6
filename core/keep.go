package core

import (
	"cmp"
	"slices"

	"greenhouse/api"
	"greenhouse/box"
)

// room is a host with so much memory free, made so where what may go is enough; false: there is none, and nothing went.
func (c *Core) room(mem int) (int, bool) {
	if h, ok := c.hosts.Fit(mem); ok {
		return h, true
	}
	for h := range api.MaxHosts {
		if c.hosts.Up(h) && c.hosts.Free(h)+c.places[h].spare >= mem {
			c.clear(h, mem)
			return h, true
		}
	}
	return 0, false
}

// clear lets sandboxes of a host go, one by one, until so much is free, which isn't yet.
func (c *Core) clear(h, mem int) {
	for b := range c.places[h].evict() {
		c.kill(b)
		if c.hosts.Free(h) >= mem {
			return
		}
	}
}

// keepAll keeps all functions.
func (c *Core) keepAll() {
	for n := range api.MaxFuncs {
		if f, ok := c.funcs[n]; ok {
			c.keep(f)
		}
	}
}

// keep lets as many sandboxes of a function be pinned as are to be, as far as there is room.
func (c *Core) keep(f *function) {
	switch {
	case len(f.pinned) > f.keep:
		c.keepFewer(f)
	case len(f.pinned) < f.keep:
		c.keepMore(f)
	}
}

// keepFewer unpins those that are too many, the latest ones first.
func (c *Core) keepFewer(f *function) {
	until := c.now + f.window().End
	for _, b := range slices.Backward(rising(f.pinned)[f.keep:]) {
		c.unpin(b)
		if b.Idle() {
			c.idle(b, until)
		}
	}
}

// keepMore pins what is there, and then what it boots.
func (c *Core) keepMore(f *function) {
	for _, b := range c.pinnable(f) {
		if len(f.pinned) == f.keep {
			return
		}
		c.pin(b)
	}
	for len(f.pinned) < f.keep {
		h, ok := c.room(f.mem)
		if !ok {
			return
		}
		c.pin(c.boot(f, h))
	}
}

// pinnable is the sandboxes of a function that may be pinned, the first one first.
func (c *Core) pinnable(f *function) []*box.Box {
	list := make([]*box.Box, 0, len(f.loose))
	for _, b := range f.loose {
		if c.hosts.Up(b.Host) {
			list = append(list, b)
		}
	}
	slices.SortFunc(list, func(a, b *box.Box) int {
		return cmp.Or(cmp.Compare(readiness(a), readiness(b)), cmp.Compare(a.ID, b.ID))
	})
	return list
}

// readiness is less, the sooner a call may run in a sandbox.
func readiness(b *box.Box) int {
	switch b.State {
	case box.Warm:
		return 0
	case box.Booting:
		return 1
	}
	return 2
}
