package core

import (
	"cmp"
	"slices"

	"greenhouse/box"
	"greenhouse/reply"
	"greenhouse/timer"
)

// rising is sandboxes by rising numbers: a list of its own, so that what is done to one may take it out of the map.
func rising(boxes map[int]*box.Box) []*box.Box {
	list := make([]*box.Box, 0, len(boxes))
	for _, b := range boxes {
		list = append(list, b)
	}
	slices.SortFunc(list, func(a, b *box.Box) int { return cmp.Compare(a.ID, b.ID) })
	return list
}

// give commands a boot, or a kill.
func (c *Core) give(boot bool, b *box.Box) {
	c.given = append(c.given, reply.Command{Boot: boot, Box: b.ID, Func: b.Func, Host: b.Host})
}

// boot lets a sandbox of a function boot on a host that has room.
func (c *Core) boot(f *function, h int) *box.Box {
	c.hosts.Take(h, f.mem)
	c.last++
	b := box.New(c.last, f.id, h, f.mem, c.now)
	c.boxes[b.ID] = b
	c.places[h].boxes[b.ID] = b
	f.loose[b.ID] = b
	c.give(true, b)
	return b
}

// kill lets a sandbox go, as is commanded.
func (c *Core) kill(b *box.Box) {
	c.gone(b)
	c.give(false, b)
}

// gone lets a sandbox be there no more.
func (c *Core) gone(b *box.Box) {
	c.hold(b)
	f := c.funcs[b.Func]
	if b.Runs() {
		c.end(f)
	}
	delete(c.ahead, b.ID)
	delete(c.boxes, b.ID)
	delete(c.places[b.Host].boxes, b.ID)
	delete(f.pinned, b.ID)
	delete(f.loose, b.ID)
	b.Kill(c.now)
	c.hosts.Give(b.Host, b.Mem)
	c.leave(b.Host)
}

// leave forgets a host that isn't there any more: it goes by itself when it drains and its last sandbox does.
func (c *Core) leave(h int) {
	if !c.hosts.There(h) {
		delete(c.places, h)
	}
}

// end lets a call of a function come to its end.
func (c *Core) end(f *function) {
	c.ledger.End(f.id)
	f.ended = c.now
}

// idle lets a sandbox in which nothing runs be there until a time, if it isn't used, or taken for room, before.
func (c *Core) idle(b *box.Box, until int64) {
	if until <= c.now {
		c.kill(b)
		return
	}
	c.places[b.Host].set(b, c.funcs[b.Func])
	c.timers.Set(timer.Key{Kind: ends, ID: b.ID}, until)
}

// hold lets a sandbox go neither for room nor by itself.
func (c *Core) hold(b *box.Box) {
	c.places[b.Host].drop(b)
	c.timers.Drop(timer.Key{Kind: ends, ID: b.ID})
}

// pin lets a sandbox be kept.
func (c *Core) pin(b *box.Box) {
	c.hold(b)
	f := c.funcs[b.Func]
	b.Pinned = true
	delete(f.loose, b.ID)
	f.pinned[b.ID] = b
}

// unpin lets a sandbox be kept no more.
func (c *Core) unpin(b *box.Box) {
	f := c.funcs[b.Func]
	b.Pinned = false
	delete(f.pinned, b.ID)
	f.loose[b.ID] = b
}
