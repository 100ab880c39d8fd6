package core

import (
	"greenhouse/api"
	"greenhouse/box"
	"greenhouse/quota"
	"greenhouse/reply"
	"greenhouse/timer"
)

// call lets a function be called: in a sandbox that is warm, or in one that boots, or not at all.
func (c *Core) call(n int) reply.Answer {
	f, ok := c.funcs[n]
	if !ok {
		return refused(api.ErrNone)
	}
	switch why, _ := c.ledger.Ask(n); why {
	case quota.OfFunction:
		return throttled(reply.OfFunction)
	case quota.OfAccount:
		return throttled(reply.OfAccount)
	}
	if b, ok := f.freshest(); ok {
		c.begin(f, b)
		return reply.Answer{Kind: reply.Warm, Box: b.ID}
	}
	return c.coldCall(f)
}

// coldCall lets a call run in a sandbox that boots for it.
func (c *Core) coldCall(f *function) reply.Answer {
	tokens := c.buckets[f.account]
	// Asked ahead of room, so that nothing goes for a call that doesn't run.
	if tokens.Tokens() == 0 {
		return throttled(reply.NoTokens)
	}
	h, ok := c.room(f.mem)
	if !ok {
		return throttled(reply.NoRoom)
	}
	tokens.Take()
	b := c.boot(f, h)
	c.begin(f, b)
	return reply.Answer{Kind: reply.Cold, Box: b.ID}
}

// begin lets a call run in a sandbox.
func (c *Core) begin(f *function, b *box.Box) {
	f.called(c.now, c.ledger.Busy(f.id) == 0)
	c.timers.Drop(timer.Key{Kind: boots, ID: f.id})
	c.ledger.Begin(f.id)
	c.hold(b)
	b.Call(c.now)
}

// throttled is the answer of a call that doesn't run.
func throttled(why reply.Why) reply.Answer {
	return reply.Answer{Kind: reply.Throttled, Why: why}
}
