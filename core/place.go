package core

import (
	"iter"

	"greenhouse/box"
	"greenhouse/warm"
)

// place is what is on a host.
type place struct {
	boxes map[int]*box.Box
	cache *warm.Cache // of those that may go
	spare int         // how much memory all in the cache have, which can't be asked of it
}

// newPlace is a host's, on which nothing is.
func newPlace() *place {
	return &place{boxes: make(map[int]*box.Box), cache: warm.New()}
}

// set lets a sandbox go, if there is no room, by what it is worth.
func (p *place) set(b *box.Box, f *function) {
	if p.cache.Set(b.ID, uint64(f.often), uint64(f.cost), uint64(b.Mem)) {
		p.spare += b.Mem
	}
}

// drop lets a sandbox stay.
func (p *place) drop(b *box.Box) {
	if p.cache.Drop(b.ID) {
		p.spare -= b.Mem
	}
}

// evict takes out those that may go, the least worth first, as long as it is asked for more.
func (p *place) evict() iter.Seq[*box.Box] {
	return func(yield func(*box.Box) bool) {
		for id, ok := p.cache.Evict(); ok; id, ok = p.cache.Evict() {
			b := p.boxes[id]
			p.spare -= b.Mem
			if !yield(b) {
				return
			}
		}
	}
}
