package audit_test

import (
	"slices"
	"testing"

	"greenhouse/api"
	"greenhouse/audit"
	"greenhouse/event"
	"greenhouse/reply"
)

// dice are the same in every run of the program.
type dice uint64

func (d *dice) under(n int) int {
	*d = *d*6364136223846793005 + 1442695040888963407
	return int((uint64(*d) >> 33) % uint64(max(n, 1)))
}

func (d *dice) of(list ...int) int { return list[d.under(len(list))] }

// same sees that First tells of steps what the model tells.
func same(t *testing.T, list []audit.Step) int {
	t.Helper()
	got, want := audit.First(list), first(list)
	if got != want {
		t.Fatalf("%d, want %d, of\n%s", got, want, told(list))
	}
	return got
}

// pasts are what was ahead: sandboxes that boot, boot for a call, are warm, are busy, are gone in each way, and hosts with and without room.
var pasts = []string{
	``,
	`func 0 1`,
	`host 0 1`,
	`func 0 1
	host 0 1`,
	`func 0 1
	func 1 1
	host 0 1
	host 1 2
	tick > boot 1 0 0`,
	`func 0 1
	host 0 2
	call 0 > boot 1 0 0, cold 1`,
	`func 0 1
	func 1 2
	host 0 3
	tick > boot 1 0 0, boot 2 1 0
	booted 1`,
	`func 0 1
	func 1 1
	host 0 2
	host 1 1
	tick > boot 1 0 0, boot 2 0 1
	booted 1
	call 0 > warm 1`,
	`func 0 1
	func 1 1
	host 0 2
	tick > boot 1 0 0, boot 2 1 0
	booted 1
	booted 2
	tick > kill 1 0 0`,
	`func 0 1
	host 0 2
	host 1 2
	tick > boot 1 0 0, boot 2 0 1
	booted 2
	call 0 > warm 2
	broke 1`,
	`func 0 1
	host 0 2
	tick > boot 1 0 0, boot 2 0 0
	fail 0`,
	`func 0 0
	tick > boot 1 0 0, boot 2 0 1
	func 0 1
	host 1 3`,
}

// fewEvents are events of each kind with small numbers.
func fewEvents() []event.Event {
	list := []event.Event{{}, {Kind: event.Account, N: 1, Limit: 1, Size: 1}}
	for n := range 4 {
		for _, k := range []event.Kind{event.Drain, event.Fail, event.Call, event.Booted, event.Broke, event.Done} {
			list = append(list, event.Event{Kind: k, N: n})
		}
		for size := range 4 {
			list = append(list, event.Event{Kind: event.Func, N: n, Mem: size}, event.Event{Kind: event.Host, N: n, Size: size})
		}
	}
	return append(list, event.Event{N: 1}, event.Event{Kind: event.Call, N: -1})
}

// fewAnswers are answers of each kind, and one that is none.
func fewAnswers() []reply.Answer {
	list := []reply.Answer{{}, {Kind: reply.Refused, Err: api.ErrNone}, {Kind: reply.Throttled, Why: reply.NoRoom}, {Kind: reply.Throttled}}
	for n := 1; n <= 4; n++ {
		list = append(list, reply.Answer{Kind: reply.Warm, Box: n}, reply.Answer{Kind: reply.Cold, Box: n})
	}
	return list
}

// fewCommands are commands with small numbers.
func fewCommands() []reply.Command {
	var list []reply.Command
	for id := 1; id <= 4; id++ {
		for fn := range 2 {
			for h := range 2 {
				list = append(list, reply.Command{Boot: true, Box: id, Func: fn, Host: h}, reply.Command{Box: id, Func: fn, Host: h})
			}
		}
	}
	return list
}

// P19.1, P19.2: behind each past each event with each answer and none, one or two commands.
func TestEachStep(t *testing.T) {
	one := fewCommands()
	rows := [][]reply.Command{nil}
	for _, c := range one {
		rows = append(rows, []reply.Command{c})
	}
	for _, text := range pasts {
		past := stepsOf(t, text)
		is(t, past, -1)
		for _, e := range fewEvents() {
			for _, a := range fewAnswers() {
				for _, row := range rows {
					same(t, append(past, audit.Step{Event: e, Answer: a, Commands: row}))
				}
			}
		}
		for _, s := range []audit.Step{
			{}, {Event: event.Event{Kind: event.Call}, Answer: reply.Answer{Kind: reply.Cold, Box: 3}},
			{Event: event.Event{Kind: event.Broke, N: 1}}, {Event: event.Event{Kind: event.Host, N: 1, Size: 1}},
		} {
			for _, c := range one {
				for _, d := range one {
					s.Commands = []reply.Command{c, d}
					same(t, append(past, s))
				}
			}
		}
	}
}

// rows is steps as they come behind those of a model.
type rows struct {
	*dice
	m *model
}

// likely is a sandbox that is there, mostly.
func (r rows) likely() int {
	var list []int
	for i, b := range r.m.all {
		if b.there {
			list = append(list, i+1)
		}
	}
	if len(list) == 0 || r.under(8) == 0 {
		return r.under(len(r.m.all)+3) - 1
	}
	return r.of(list...)
}

// command is any command, mostly one that may be.
func (r rows) command() reply.Command {
	if r.under(2) == 0 {
		return reply.Command{Boot: true, Box: len(r.m.all) + r.of(1, 1, 1, 1, 1, 0, 2), Func: r.under(4), Host: r.under(3)}
	}
	id := r.likely()
	c := reply.Command{Box: id, Func: r.under(4), Host: r.under(3)}
	if b := r.m.box(id); b != nil && r.under(8) > 0 {
		c.Func, c.Host = b.fn, b.host
	}
	return c
}

// step is any step, mostly one that may be.
func (r rows) step() audit.Step {
	var s audit.Step
	switch s.Event.Kind = event.Kind(r.under(10)); s.Event.Kind {
	case event.Func:
		s.Event.N, s.Event.Mem = r.under(4), r.under(5)
	case event.Host:
		s.Event.N, s.Event.Size = r.under(3), r.under(12)
	case event.Fail:
		// Less often, so that more is there at once.
		s.Event.N = r.of(0, 1, 2, 9, 9, 9, 9)
	case event.Booted, event.Broke, event.Done:
		s.Event.N = r.likely()
	case event.Account, event.Drain:
		s.Event.N = r.under(3)
	case event.Call:
		s.Event.N = r.under(4)
		s.Answer = reply.Answer{Kind: reply.Kind(r.of(0, 1, 2, 2, 3, 3, 4)), Box: r.likely()}
	}
	for range r.of(0, 0, 1, 1, 2, 3) {
		s.Commands = append(s.Commands, r.command())
	}
	if s.Event.Kind == event.Call {
		r.answer(&s)
	} else if r.under(20) == 0 {
		s.Answer = rightAnswers()[r.under(len(rightAnswers()))]
	}
	if r.under(50) == 0 {
		s.Answer = wrongAnswers()[r.under(len(wrongAnswers()))]
	}
	return s
}

// answer lets a call's answer be Right, and mostly what its kind goes with.
func (r rows) answer(s *audit.Step) {
	switch s.Answer.Kind {
	case reply.Warm:
		if r.under(4) > 0 {
			s.Commands = nil
		}
		if b := r.m.box(s.Answer.Box); b != nil && r.under(4) > 0 {
			s.Event.N = b.fn
		}
	case reply.Cold:
		last := len(r.m.all)
		switch k := len(s.Commands); {
		case k > 0 && r.under(4) > 0:
			s.Answer.Box, s.Event.N = s.Commands[k-1].Box, s.Commands[k-1].Func
		case last > 0 && r.under(4) > 0:
			// The last one of the steps before: it boots, or not any more.
			s.Answer.Box, s.Event.N, s.Commands = last, r.of(r.m.all[last-1].fn, r.under(4)), nil
		}
	case reply.Throttled:
		s.Answer = reply.Answer{Kind: reply.Throttled, Why: reply.NoRoom}
		if r.under(4) > 0 {
			s.Commands = nil
		}
	case reply.Refused:
		s.Answer = reply.Answer{Kind: reply.Refused, Err: api.ErrNone}
		if r.under(4) > 0 {
			s.Commands = nil
		}
	default:
		s.Answer = reply.Answer{}
	}
}

// P19.1, P19.2: long rows, of steps each of which may be or is told at once, for each reason.
func TestAsTheModel(t *testing.T) {
	reached := map[string]int{}
	for seed := range 120 {
		d := dice(seed*7919 + 1)
		var list []audit.Step
		m := newModel()
		for range 400 {
			r := rows{&d, m}
			s := r.step()
			more := append(list[:len(list):len(list)], s)
			at := same(t, more)
			if at < 0 {
				list = more
				m.do(s)
				reached[""]++
				continue
			}
			reached[m.do(s)]++
			// Behind a step that may not be a model means nothing.
			m = newModel()
			for _, x := range list {
				m.do(x)
			}
		}
	}
	for _, why := range append(whys, "") {
		// No row has an event that isn't Right; these have a test of their own.
		if why != "no event" && reached[why] < 20 {
			t.Errorf("%q was reached %d times", why, reached[why])
		}
	}
}

// Rows in which steps may stand at any place, so that many may not be.
func TestRowsOfAnySteps(t *testing.T) {
	d := dice(3)
	events, answers, commands := fewEvents(), fewAnswers(), fewCommands()
	for range 30000 {
		list := stepsOf(t, pasts[d.under(len(pasts))])
		for range d.under(6) {
			s := audit.Step{Event: events[d.under(len(events))], Answer: answers[d.of(0, 0, 1, d.under(len(answers)))]}
			for range d.of(0, 0, 0, 1, 2) {
				s.Commands = append(s.Commands, commands[d.under(len(commands))])
			}
			list = slices.Insert(list, d.under(len(list)+1), s)
		}
		same(t, list)
	}
}
