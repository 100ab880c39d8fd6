package core

import (
	"greenhouse/api"
	"greenhouse/box"
	"greenhouse/histo"
	"greenhouse/policy"
	"greenhouse/ring"
)

// never is the end of a function's last call, where none has come to its end.
const never = -1

// function is what is known of a function. Its sandboxes are parted by whether they are Pinned, so that to see how many are takes no count of them all.
type function struct {
	id, account, mem int
	cost, keep       int
	often            int   // it was called
	ended            int64 // when a call of it came to its end last
	until            int64 // until when what its boot is set for is to be there
	counts           *histo.Histo
	recent           *ring.Ring
	pinned, loose    map[int]*box.Box
}

// newFunction is a function without sandboxes, that was never called.
func newFunction(id, account, mem int) *function {
	return &function{
		id:      id,
		account: account,
		mem:     mem,
		ended:   never,
		counts:  histo.New(),
		recent:  ring.New(),
		pinned:  make(map[int]*box.Box),
		loose:   make(map[int]*box.Box),
	}
}

// window is from when to when behind a call a sandbox is to be there, by all idle times so far.
func (f *function) window() policy.Window { return policy.Of(f.counts, f.recent) }

// has tells whether a sandbox of it is there, in whichever state.
func (f *function) has() bool { return len(f.pinned)+len(f.loose) > 0 }

// freshest is the sandbox for its next call, of those in which nothing runs; false: there is none.
func (f *function) freshest() (*box.Box, bool) {
	var best *box.Box
	for _, boxes := range []map[int]*box.Box{f.pinned, f.loose} {
		for _, b := range boxes {
			if b.Idle() && (best == nil || fresher(b, best)) {
				best = b
			}
		}
	}
	return best, best != nil
}

// fresher tells whether a call goes to a rather than to b.
func fresher(a, b *box.Box) bool {
	if a.Since != b.Since {
		return a.Since > b.Since
	}
	return a.ID < b.ID
}

// called counts a call that begins. idle is whether none ran, so that there may be an idle time.
func (f *function) called(now int64, idle bool) {
	if idle && f.ended != never {
		f.counts.Add(now - f.ended)
		f.recent.Push(now - f.ended)
	}
	f.often = min(f.often+1, api.MaxFreq)
}
