package audit_test

import (
	"slices"

	"greenhouse/audit"
	"greenhouse/event"
	"greenhouse/reply"
)

// thing is a sandbox of the model, there or gone.
type thing struct {
	fn, host            int
	there, boots, calls bool
}

// model is the chapter's words, one after the other: all sums are worked out anew, and each reason why a step may not be stands alone.
type model struct {
	sizes map[int]int
	mems  map[int]int
	all   []thing // the one with the number 1 is the first
}

// first is what First is to be.
func first(list []audit.Step) int {
	m := newModel()
	return slices.IndexFunc(list, func(s audit.Step) bool { return m.do(s) != "" })
}

func newModel() *model { return &model{sizes: map[int]int{}, mems: map[int]int{}} }

// box is a sandbox that is there, or none.
func (m *model) box(id int) *thing {
	if id < 1 || id > len(m.all) || !m.all[id-1].there {
		return nil
	}
	return &m.all[id-1]
}

// used is the memory of all sandboxes of a host.
func (m *model) used(h int) int {
	sum := 0
	for _, b := range m.all {
		if b.there && b.host == h {
			sum += m.mems[b.fn]
		}
	}
	return sum
}

// do goes on by a step: why it may not be, or nothing.
func (m *model) do(s audit.Step) string {
	switch {
	case !s.Event.Right():
		return "no event"
	case !s.Answer.Right():
		return "no answer"
	case s.Answer.Kind == reply.Refused && len(s.Commands) > 0:
		return "refused, with commands"
	case s.Answer.Kind == reply.Refused:
		return ""
	case s.Event.Kind != event.Call && s.Answer.Kind != reply.Taken:
		return "answered as a call"
	}
	if why := m.happens(s.Event); why != "" {
		return why
	}
	for _, c := range s.Commands {
		why := m.killed(c)
		if c.Boot {
			why = m.booted(c)
		}
		if why != "" {
			return why
		}
	}
	if s.Event.Kind == event.Call {
		return m.called(s)
	}
	return ""
}

func (m *model) happens(e event.Event) string {
	b := m.box(e.N)
	switch e.Kind {
	case event.Host:
		m.sizes[e.N] = e.Size
	case event.Func:
		m.mems[e.N] = e.Mem
	case event.Fail:
		m.sizes[e.N] = 0
		for i := range m.all {
			if m.all[i].host == e.N {
				m.all[i].there = false
			}
		}
	case event.Booted:
		if b == nil {
			return "booted, but isn't there"
		}
		if !b.boots {
			return "booted, but doesn't boot"
		}
		b.boots = false
	case event.Done:
		if b == nil {
			return "done, but isn't there"
		}
		if b.boots {
			return "done, but boots"
		}
		if !b.calls {
			return "done, but isn't busy"
		}
		b.calls = false
	case event.Broke:
		if b == nil {
			return "broke, but isn't there"
		}
		b.there = false
	}
	return ""
}

func (m *model) killed(c reply.Command) string {
	if c.Boot {
		return ""
	}
	b := m.box(c.Box)
	if b == nil {
		return "killed, but isn't there"
	}
	if b.calls {
		return "killed, but is busy"
	}
	if b.fn != c.Func {
		return "killed, but is another function's"
	}
	if b.host != c.Host {
		return "killed, but is on another host"
	}
	b.there = false
	return ""
}

func (m *model) booted(c reply.Command) string {
	if c.Box != len(m.all)+1 {
		return "boots, but isn't the next"
	}
	mem, ok := m.mems[c.Func]
	if !ok {
		return "boots, of no function"
	}
	if m.used(c.Host)+mem > m.sizes[c.Host] {
		return "boots, but there is no room"
	}
	m.all = append(m.all, thing{fn: c.Func, host: c.Host, there: true, boots: true})
	return ""
}

func (m *model) called(s audit.Step) string {
	if s.Answer.Kind == reply.Taken {
		return "a call is taken"
	}
	if s.Answer.Kind != reply.Cold && len(s.Commands) > 0 {
		return "not cold, with commands"
	}
	if s.Answer.Kind == reply.Throttled {
		return ""
	}
	if s.Answer.Kind == reply.Cold && s.Answer.Box != len(m.all) {
		return "cold, but isn't the last"
	}
	b := m.box(s.Answer.Box)
	if b == nil {
		return "answers, but isn't there"
	}
	if b.boots && s.Answer.Kind == reply.Warm {
		return "warm, but boots"
	}
	if !b.boots && s.Answer.Kind == reply.Cold {
		return "cold, but doesn't boot"
	}
	if b.calls {
		return "answers, but is busy"
	}
	if b.fn != s.Event.N {
		return "answers, but is another function's"
	}
	b.calls = true
	return ""
}

// whys are all reasons of the model.
var whys = []string{
	"no event", "no answer", "refused, with commands", "answered as a call",
	"booted, but isn't there", "booted, but doesn't boot",
	"done, but isn't there", "done, but boots", "done, but isn't busy", "broke, but isn't there",
	"killed, but isn't there", "killed, but is busy", "killed, but is another function's", "killed, but is on another host",
	"boots, but isn't the next", "boots, of no function", "boots, but there is no room",
	"a call is taken", "not cold, with commands", "cold, but isn't the last", "answers, but isn't there",
	"warm, but boots", "cold, but doesn't boot", "answers, but is busy", "answers, but is another function's",
}
