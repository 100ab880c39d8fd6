package audit_test

import (
	"fmt"
	"math"
	"reflect"
	"testing"

	"greenhouse/api"
	"greenhouse/audit"
	"greenhouse/event"
	"greenhouse/reply"
)

// rightAnswers are answers of each kind, with each error and each reason.
func rightAnswers() []reply.Answer {
	list := []reply.Answer{{}}
	for e := api.ErrArg; e <= api.ErrMany; e++ {
		list = append(list, reply.Answer{Kind: reply.Refused, Err: e})
	}
	for w := reply.OfFunction; w <= reply.NoRoom; w++ {
		list = append(list, reply.Answer{Kind: reply.Throttled, Why: w})
	}
	for _, n := range []int{1, 2, event.Most} {
		list = append(list, reply.Answer{Kind: reply.Warm, Box: n}, reply.Answer{Kind: reply.Cold, Box: n})
	}
	return list
}

// wrongAnswers are answers that aren't Right.
func wrongAnswers() []reply.Answer {
	return []reply.Answer{
		{Box: 1}, {Why: reply.OfFunction}, {Err: api.ErrArg},
		{Kind: reply.Refused}, {Kind: reply.Refused, Err: -1}, {Kind: reply.Refused, Err: api.ErrMany + 1},
		{Kind: reply.Refused, Err: api.ErrNone, Box: 1}, {Kind: reply.Refused, Err: api.ErrNone, Why: reply.NoRoom},
		{Kind: reply.Warm}, {Kind: reply.Warm, Box: -1}, {Kind: reply.Warm, Box: event.Most + 1}, {Kind: reply.Warm, Box: math.MinInt},
		{Kind: reply.Warm, Box: 1, Why: reply.NoRoom}, {Kind: reply.Warm, Box: 1, Err: api.ErrNone},
		{Kind: reply.Cold}, {Kind: reply.Cold, Box: -1}, {Kind: reply.Cold, Box: event.Most + 1}, {Kind: reply.Cold, Box: math.MaxInt},
		{Kind: reply.Cold, Box: 1, Why: reply.NoRoom}, {Kind: reply.Cold, Box: 1, Err: api.ErrNone},
		{Kind: reply.Throttled}, {Kind: reply.Throttled, Why: -1}, {Kind: reply.Throttled, Why: reply.NoRoom + 1},
		{Kind: reply.Throttled, Why: reply.NoRoom, Box: 1}, {Kind: reply.Throttled, Why: reply.NoRoom, Err: api.ErrNone},
		{Kind: -1}, {Kind: reply.Throttled + 1}, {Kind: math.MinInt}, {Kind: math.MaxInt},
	}
}

// eachKind is a right event of each kind, none of which is of a thing that there is at first.
func eachKind() []event.Event {
	return []event.Event{
		{},
		{Kind: event.Account, N: 1, Limit: 2, Size: 3, Refill: 4},
		{Kind: event.Func, N: 1, Account: 2, Mem: 3, Cost: 4, Reserved: 5, Keep: 6},
		{Kind: event.Host, N: 1, Size: 2},
		{Kind: event.Drain, N: 1},
		{Kind: event.Fail, N: 1},
		{Kind: event.Call, N: 1},
		{Kind: event.Booted, N: 1},
		{Kind: event.Broke, N: 1},
		{Kind: event.Done, N: 1},
	}
}

// wrongEvents are events that aren't Right: of each kind with a number below 0, one beyond the greatest, and one that isn't its own; and of no kind.
func wrongEvents() []event.Event {
	list := []event.Event{{N: 1}, {Mem: 1}, {Kind: -1}, {Kind: event.Done + 1}, {Kind: math.MinInt}, {Kind: math.MaxInt}}
	for _, e := range eachKind()[1:] {
		for _, n := range []int{-1, math.MinInt, event.Most + 1, math.MaxInt} {
			e.N = n
			list = append(list, e)
		}
		e.N = 1
		switch e.Kind {
		case event.Func:
			e.Limit = 1
		case event.Account:
			e.Keep = 1
		default:
			e.Mem = 1
		}
		list = append(list, e)
	}
	for _, n := range []int{-1, event.Most + 1} {
		list = append(list, event.Event{Kind: event.Account, Limit: n}, event.Event{Kind: event.Account, Refill: n},
			event.Event{Kind: event.Func, Mem: n}, event.Event{Kind: event.Func, Keep: n}, event.Event{Kind: event.Host, Size: n})
	}
	return list
}

// boot is a step that boots a sandbox.
func boot(box, fn, host int) audit.Step {
	return audit.Step{Commands: []reply.Command{{Boot: true, Box: box, Func: fn, Host: host}}}
}

// P19.1

func TestNoSteps(t *testing.T) {
	is(t, nil, -1)
	is(t, []audit.Step{}, -1)
}

// The zero value of a step is a tick that is taken.
func TestZeroSteps(t *testing.T) {
	is(t, []audit.Step{{}}, -1)
	is(t, make([]audit.Step, 5), -1)
}

// One step of each kind, with each kind of answer.
func TestOneStep(t *testing.T) {
	for _, e := range eachKind() {
		for _, a := range rightAnswers() {
			may := a.Kind == reply.Refused
			switch e.Kind {
			case event.Tick, event.Account, event.Func, event.Host, event.Drain, event.Fail:
				may = may || a.Kind == reply.Taken
			case event.Call:
				may = may || a.Kind == reply.Throttled
			}
			want := 0
			if may {
				want = -1
			}
			is(t, []audit.Step{{Event: e, Answer: a}}, want)
		}
	}
}

func TestNumbersAtTheBounds(t *testing.T) {
	script(t, `
		account 0
		account most
		func most most
		func 0 0
		host most most
		host 0 0
		drain most
		fail most
		call most > throttled room
		booted most > refused none
		broke most > refused none
		done most > refused none
		!booted most
		!broke most
		!done most
		!booted 0
		!broke 0
		!done 0
	`)
}

func TestEventsThatAreNotRight(t *testing.T) {
	for _, e := range wrongEvents() {
		if e.Right() {
			t.Errorf("%+v is Right", e)
		}
		for _, a := range rightAnswers() {
			is(t, []audit.Step{{Event: e, Answer: a}}, 0)
			is(t, []audit.Step{{}, {Event: e, Answer: a}}, 1)
		}
	}
}

func TestAnswersThatAreNotRight(t *testing.T) {
	ahead := stepsOf(t, `
		func 0 1
		host 0 1
		call 0 > boot 1 0 0, cold 1
		booted 1
		done 1
	`)
	for _, a := range wrongAnswers() {
		if a.Right() {
			t.Errorf("%+v is Right", a)
		}
		for _, e := range eachKind() {
			is(t, []audit.Step{{Event: e, Answer: a}}, 0)
		}
		is(t, append(ahead, audit.Step{Event: event.Event{Kind: event.Call}, Answer: a}), len(ahead))
	}
}

// The chapter's example.
func TestDoneOfNone(t *testing.T) {
	script(t, `
		done 1 > refused none
		!done 1
	`)
}

func TestRefusedWithCommands(t *testing.T) {
	script(t, `
		func 0 1
		host 0 9
		tick > boot 1 0 0
		booted 1
		!tick > boot 2 0 0, refused arg
		!account 0 > kill 1 0 0, refused arg
		!func 1 1 > boot 2 0 0, refused state
		!host 1 9 > boot 2 0 0, refused state
		!drain 0 > kill 1 0 0, refused none
		!fail 0 > boot 2 0 0, refused none
		!call 0 > boot 2 0 0, refused none
		!call 0 > kill 1 0 0, refused none
		!booted 1 > kill 1 0 0, refused state
		!broke 1 > boot 2 0 0, refused none
		!done 1 > kill 1 0 0, refused state
		!done 1 > kill 7 0 0, refused state
		tick > kill 1 0 0, boot 2 0 0
	`)
}

// Nothing turns by a step that is refused: no host, no function, no sandbox.
func TestRefusedTurnsNothing(t *testing.T) {
	script(t, `
		func 0 3 > refused arg
		host 0 5 > refused arg
		!tick > boot 1 0 0
		func 0 3
		host 0 2 > refused state
		!tick > boot 1 0 0
		host 0 6
		host 0 2 > refused state
		fail 0 > refused none
		func 0 9 > refused state
		tick > boot 1 0 0
		func 0 4 > refused state
		tick > boot 2 0 0
		booted 1 > refused none
		!call 0 > warm 1
		booted 1
		broke 1 > refused none
		call 0 > warm 1
		done 1 > refused state
		!call 0 > warm 1
		!tick > kill 1 0 0
		call 0 > refused none
		fail 0 > refused none
		done 1
		call 0 > cold 2
	`)
}

// What is no call is answered as none.
func TestAnswersOfCallsAlone(t *testing.T) {
	script(t, `
		func 0 1
		host 0 9
		tick > boot 1 0 0
		tick > boot 2 0 0
		tick > boot 3 0 0
		booted 1
		booted 3
		call 0 > warm 3
		!tick > warm 1
		!account 0 > warm 1
		!func 0 1 > warm 1
		!host 1 1 > warm 1
		!drain 1 > warm 1
		!fail 1 > warm 1
		!booted 2 > warm 1
		!broke 2 > warm 1
		!done 3 > warm 1
		!done 3 > warm 3
		!tick > boot 4 0 0, cold 4
		!func 1 1 > boot 4 0 0, cold 4
		!host 0 9 > boot 4 0 0, cold 4
		!booted 2 > boot 4 0 0, cold 4
		!broke 2 > boot 4 0 0, cold 4
		!done 3 > boot 4 0 0, cold 4
		!tick > throttled room
		!account 0 > throttled account
		!func 0 1 > throttled function
		!host 1 1 > throttled room
		!drain 1 > throttled room
		!fail 1 > throttled room
		!booted 2 > throttled tokens
		!broke 2 > throttled tokens
		!done 3 > throttled tokens
	`)
}

func TestHostAnew(t *testing.T) {
	script(t, `
		func 0 2
		!tick > boot 1 0 0
		host 0 1
		!tick > boot 1 0 0
		host 0 2
		tick > boot 1 0 0
		!tick > boot 2 0 0
		# what is there stays, and takes of the new memory
		host 0 3
		!tick > boot 2 0 0
		host 0 4
		tick > boot 2 0 0
		host 0 1
		!tick > boot 3 0 0
		booted 1
		call 0 > warm 1
		tick > kill 2 0 0
		!tick > boot 3 0 0
		done 1
		tick > kill 1 0 0
		!tick > boot 3 0 0
		host 0 2
		tick > boot 3 0 0
	`)
}

// A host's memory is its own alone.
func TestHostsOfTheirOwn(t *testing.T) {
	script(t, `
		func 0 2
		host 1 2
		host most 3
		!tick > boot 1 0 0
		!tick > boot 1 0 2
		!tick > boot 1 0 -1
		tick > boot 1 0 1
		!tick > boot 2 0 1
		tick > boot 2 0 most
		!tick > boot 3 0 most
	`)
}

func TestFuncAnew(t *testing.T) {
	script(t, `
		host 0 10
		host 1 6
		func 0 2
		func 1 3
		tick > boot 1 0 0, boot 2 0 0, boot 3 1 0
		tick > boot 4 0 1
		# 7 of 10 are used
		!tick > boot 5 0 0, boot 6 0 0
		# with 3 each: 9
		func 0 3
		!tick > boot 5 0 0
		# with 4 each: 11, more than there is; that alone may be
		func 0 4
		func 2 0
		!tick > boot 5 2 0
		!tick > boot 5 0 1
		tick > boot 5 2 1
		# with 1 each: 5
		func 0 1
		tick > boot 6 0 0, boot 7 0 0, boot 8 1 0
		!tick > boot 9 0 0
		# the ones of the other host too: 1 of 6
		tick > boot 9 0 1, boot 10 0 1, boot 11 0 1, boot 12 0 1, boot 13 0 1
		!tick > boot 14 0 1
		# a function's Mem alone is set anew, what of it is there stays
		booted 1
		call 0 > warm 1
		func 0 1
		!call 0 > warm 1
		done 1
		# what is gone has nothing of it: two of 0 with 2 each, two of 1 with 3 each
		tick > kill 1 0 0, kill 2 0 0
		func 0 2
		!tick > boot 14 0 0
		func 0 1
		tick > boot 14 0 0, boot 15 0 0
		!tick > boot 16 0 0
	`)
}

// A function that is set anew has nothing more of what was on a host that failed, nor of what had gone there before.
func TestFuncAnewBehindFail(t *testing.T) {
	script(t, `
		host 0 4
		func 0 1
		func 1 1
		tick > boot 1 0 0, boot 2 0 0, boot 3 0 0
		tick > kill 1 0 0
		fail 0
		func 0 2
		!tick > boot 4 1 0
		host 0 4
		tick > boot 4 0 0, boot 5 0 0
		!tick > boot 6 1 0
		func 0 1
		tick > boot 6 1 0, boot 7 0 0
		!tick > boot 8 1 0
	`)
}

// What goes of a function that was set anew gives back what the function has now.
func TestMemoryThatComesBack(t *testing.T) {
	for _, end := range []string{"tick > kill 1 0 0", "broke 1", "call 1 > kill 1 0 0, boot 3 1 0, cold 3"} {
		list := stepsOf(t, `
			host 0 9
			func 0 2
			func 1 1
			tick > boot 1 0 0, boot 2 0 0
			func 0 4
			`+end+`
			tick > kill 2 0 0
		`)
		next, used := 3, 0
		if list[5].Event.Kind == event.Call {
			next, used = 4, 1
		}
		for ; used < 9; used++ {
			list = append(list, boot(next, 1, 0))
			next++
		}
		is(t, list, -1)
		is(t, append(list, boot(next, 1, 0)), len(list))
	}
}

func TestBooted(t *testing.T) {
	script(t, `
		func 0 1
		host 0 9
		!booted 1
		tick > boot 1 0 0
		!booted 0
		!booted 2
		booted 1
		# it doesn't boot any more
		!booted 1
		call 0 > warm 1
		# it is busy
		!booted 1
		done 1
		!booted 1
		tick > kill 1 0 0
		# it is gone
		!booted 1
		call 0 > boot 2 0 0, cold 2
		# one that boots for a call is busy behind it, and boots no more
		booted 2
		!booted 2
		!call 0 > warm 2
		done 2
		call 0 > warm 2
	`)
}

func TestDone(t *testing.T) {
	script(t, `
		func 0 1
		host 0 9
		!done 1
		tick > boot 1 0 0
		# it boots
		!done 1
		!done 0
		!done 2
		booted 1
		# it isn't busy
		!done 1
		call 0 > warm 1
		done 1
		!done 1
		call 0 > warm 1
		done 1
		call 0 > boot 2 0 0, cold 2
		# it boots for a call
		!done 2
		booted 2
		done 2
		!done 2
		call 0 > warm 2
		broke 2
		# it is gone
		!done 2
	`)
}

func TestBroke(t *testing.T) {
	script(t, `
		func 0 1
		host 0 4
		!broke 0
		!broke 1
		tick > boot 1 0 0, boot 2 0 0, boot 3 0 0
		call 0 > boot 4 0 0, cold 4
		!broke 5
		booted 2
		booted 3
		call 0 > warm 3
		# one that boots, that boots for a call, that is busy, and that isn't
		broke 1
		broke 4
		broke 3
		broke 2
		!broke 1
		!broke 2
		!broke 3
		!broke 4
		!booted 1
		!call 0 > warm 2
		!call 0 > cold 4
		!done 3
		!tick > kill 2 0 0
		# numbers go on, and memory is there again
		!tick > boot 4 0 0
		tick > boot 5 0 0, boot 6 0 0, boot 7 0 0, boot 8 0 0
		!tick > boot 9 0 0
	`)
}

func TestFail(t *testing.T) {
	script(t, `
		func 0 1
		func 1 2
		# of one that there isn't
		fail 0
		fail most
		host 0 9
		# of one without sandboxes
		fail 0
		!tick > boot 1 0 0
		host 0 6
		host 1 3
		tick > boot 1 0 0, boot 2 1 0, boot 3 0 1
		call 0 > boot 4 0 0, cold 4
		booted 1
		booted 2
		call 1 > warm 2
		fail 0
		!booted 1
		!call 0 > warm 1
		!done 2
		!booted 4
		!broke 4
		!tick > kill 1 0 0
		!tick > boot 5 0 0
		# what is on others stays
		booted 3
		call 0 > warm 3
		tick > boot 5 0 1
		# with its memory none of it is used
		host 0 2
		tick > boot 6 0 0, boot 7 0 0
		!tick > boot 8 0 0
		fail 0
		fail 0
		!tick > boot 8 0 0
		!broke 6
		tick > boot 8 0 1
		!tick > boot 9 0 1
		fail 1
		!done 3
		host 1 1
		tick > boot 9 0 1
		!tick > boot 10 0 1
	`)
}

// What happens by the event comes ahead of the commands.
func TestCommandsBehindTheEvent(t *testing.T) {
	script(t, `
		func 0 2
		!func 1 1 > boot 1 1 0
		host 0 4 > boot 1 0 0
		!func 1 3 > boot 2 1 0
		func 1 2 > boot 2 1 0
		booted 1 > kill 1 0 0
		!booted 2 > boot 3 0 0, boot 4 0 0
		booted 2 > boot 3 0 0
		call 1 > warm 2
		done 2 > kill 2 1 0
		!done 3 > kill 3 0 0
		!broke 3 > kill 3 0 0
		broke 3 > boot 4 0 0, boot 5 0 0
		!fail 0 > kill 4 0 0
		!fail 0 > boot 6 0 0
		host 1 4
		fail 0 > boot 6 0 1
		drain 1 > kill 6 0 1, boot 7 0 1
		account 0 > kill 7 0 1
	`)
}

// P19.2

func TestKill(t *testing.T) {
	script(t, `
		func 0 1
		func 1 1
		host 0 9
		host 1 9
		!tick > kill 1 0 0
		tick > boot 1 0 0, boot 2 1 1
		!tick > kill 0 0 0
		!tick > kill 3 0 0
		!tick > kill -1 0 0
		!tick > kill max 0 0
		!tick > kill min 0 0
		# another function's, on another host
		!tick > kill 1 1 0
		!tick > kill 1 0 1
		!tick > kill 1 -1 0
		!tick > kill 1 0 -1
		!tick > kill 1 2 0
		!tick > kill 1 0 2
		!tick > kill 2 0 0
		!tick > kill 2 0 1
		!tick > kill 2 1 0
		# one that boots
		tick > kill 1 0 0
		!tick > kill 1 0 0
		booted 2
		call 1 > warm 2
		# one that is busy
		!tick > kill 2 1 1
		done 2
		# one that is warm
		tick > kill 2 1 1
		!tick > kill 2 1 1
		call 0 > boot 3 0 0, cold 3
		# one that boots for a call
		!tick > kill 3 0 0
		booted 3
		!tick > kill 3 0 0
		done 3
		!tick > kill 3 0 0, kill 3 0 0
		tick > kill 3 0 0
	`)
}

func TestNextNumber(t *testing.T) {
	script(t, `
		func 0 0
		host 0 9
		!tick > boot 0 0 0
		!tick > boot -1 0 0
		!tick > boot 2 0 0
		!tick > boot max 0 0
		!tick > boot min 0 0
		!tick > boot most 0 0
		tick > boot 1 0 0
		!tick > boot 1 0 0
		!tick > boot 0 0 0
		!tick > boot 3 0 0
		!tick > boot -2 0 0
		!tick > boot max 0 0
		tick > boot 2 0 0
		# behind a kill, a Broke, a Fail the numbers go on
		tick > kill 2 0 0
		!tick > boot 2 0 0
		broke 1
		!tick > boot 1 0 0
		tick > boot 3 0 0
		fail 0
		!tick > boot 1 0 0
		!tick > boot 3 0 0
		call 0 > boot 4 0 0, cold 4
		!tick > boot 6 0 0, boot 5 0 0
		!tick > boot 5 0 0, boot 5 0 0
		!tick > boot 5 0 0, boot 7 0 0
		tick > boot 5 0 0, boot 6 0 0
	`)
}

func TestBootOfNoFunction(t *testing.T) {
	script(t, `
		host 0 9
		!tick > boot 1 0 0
		func 1 1
		!tick > boot 1 0 0
		!tick > boot 1 2 0
		!tick > boot 1 -1 0
		!tick > boot 1 max 0
		!tick > boot 1 min 0
		!call 0 > boot 1 0 0, cold 1
		tick > boot 1 1 0
		# with a Mem of 0 it is a function too
		func 0 0
		tick > boot 2 0 0
		func most 1
		tick > boot 3 most 0
	`)
}

// A host that there isn't has no memory, and what has none itself may be there.
func TestHostsWithoutMemory(t *testing.T) {
	script(t, `
		func 0 1
		func 1 0
		!tick > boot 1 0 0
		!tick > boot 1 0 -1
		!tick > boot 1 0 max
		host 0 0
		!tick > boot 1 0 0
		tick > boot 1 1 0
		tick > boot 2 1 7, boot 3 1 -1, boot 4 1 max, boot 5 1 min
		tick > kill 2 1 7
		!tick > kill 2 1 7
		booted 4
		call 1 > warm 4
		func 1 1
		func 0 0
		# one that has more than its host is there, so nothing more may be, though it has none
		!tick > boot 6 0 max
		tick > boot 6 0 7
		tick > kill 3 1 -1
		tick > boot 7 0 -1
	`)
}

func TestJustEnoughMemory(t *testing.T) {
	for mem := 1; mem <= 9; mem++ {
		for size := 0; size <= 40; size++ {
			list := []audit.Step{
				{Event: event.Event{Kind: event.Host, N: 3, Size: size}},
				{Event: event.Event{Kind: event.Func, N: 5, Mem: mem}},
			}
			for n := 1; n*mem <= size; n++ {
				list = append(list, boot(n, 5, 3))
			}
			is(t, list, -1)
			is(t, append(list, boot(size/mem+1, 5, 3)), len(list))
		}
	}
}

func TestMemoryOfSeveralFunctions(t *testing.T) {
	script(t, `
		host 0 10
		func 0 5
		func 1 3
		func 2 2
		func 3 1
		tick > boot 1 0 0, boot 2 1 0
		!tick > boot 3 1 0
		tick > boot 3 2 0
		!tick > boot 4 3 0
		# behind a kill, a Broke, a call that kills
		tick > kill 2 1 0
		!tick > boot 4 0 0
		tick > boot 4 2 0, boot 5 3 0
		!tick > boot 6 3 0
		broke 1
		!call 1 > boot 6 1 0, boot 7 1 0, cold 7
		call 1 > boot 6 1 0, boot 7 2 0, kill 7 2 0, boot 8 2 0, kill 8 2 0, kill 5 3 0, boot 9 1 0, cold 9
		!tick > boot 10 3 0
		# a sandbox that is busy, or warm, has as much as one that boots
		booted 9
		!tick > boot 10 3 0
		done 9
		!tick > boot 10 3 0
		call 1 > warm 9
		!tick > boot 10 3 0
		broke 9
		!tick > boot 10 1 0, boot 11 3 0
		tick > boot 10 2 0, boot 11 3 0
		fail 0
		host 0 10
		!tick > boot 12 0 0, boot 13 0 0, boot 14 3 0
		tick > boot 12 0 0, boot 13 0 0
	`)
}

// Sums beyond the greatest number of an event.
func TestMuchMemory(t *testing.T) {
	script(t, `
		host 0 most
		func 0 most
		func 1 0
		func 2 1
		tick > boot 1 0 0
		!tick > boot 2 0 0
		!tick > boot 2 2 0
		tick > boot 2 1 0
		tick > boot 3 1 0, boot 4 1 0
		func 1 most
		func 3 0
		# 4 times the greatest
		!tick > boot 5 3 0
		tick > kill 1 0 0, kill 2 1 0
		!tick > boot 5 3 0
		tick > kill 3 1 0
		tick > boot 5 3 0
		!tick > boot 6 2 0
		func 1 0
		tick > boot 6 2 0
	`)
}

func TestSeveralCommands(t *testing.T) {
	script(t, `
		func 0 2
		host 0 4
		tick > boot 1 0 0, boot 2 0 0
		# room comes by a kill ahead of it alone
		!tick > boot 3 0 0, kill 1 0 0
		tick > kill 1 0 0, boot 3 0 0
		!tick > kill 1 0 0, boot 4 0 0
		# what boots may go at once, but not ahead of that
		!tick > kill 4 0 0, kill 2 0 0, boot 4 0 0
		tick > kill 2 0 0, boot 4 0 0, kill 4 0 0
		!tick > boot 6 0 0, boot 5 0 0
		# each of them is asked, the first, one between and the last
		!tick > kill 9 0 0, kill 3 0 0, boot 5 0 0
		!tick > kill 3 0 0, kill 9 0 0, boot 5 0 0
		!tick > kill 3 0 0, boot 5 0 0, kill 9 0 0
		tick > kill 3 0 0, boot 5 0 0
	`)
}

func TestWarm(t *testing.T) {
	script(t, `
		func 0 1
		func 1 1
		host 0 9
		!call 0 > warm 1
		tick > boot 1 0 0, boot 2 1 0, boot 3 0 0
		# it boots
		!call 0 > warm 1
		booted 1
		booted 2
		# it is another function's, or of one that there isn't
		!call 1 > warm 1
		!call 0 > warm 2
		!call 2 > warm 1
		# something is commanded
		!call 0 > kill 3 0 0, warm 1
		!call 0 > boot 4 0 0, warm 1
		!call 0 > kill 1 0 0, warm 1
		!call 0 > warm 4
		!call 0 > warm 2147483647
		call 0 > warm 1
		# it is busy
		!call 0 > warm 1
		call 1 > warm 2
		done 1
		call 0 > warm 1
		done 1
		tick > kill 1 0 0
		# it is gone
		!call 0 > warm 1
		call 0 > boot 4 0 0, cold 4
		# it boots for a call
		!call 0 > warm 4
		booted 4
		!call 0 > warm 4
		done 4
		call 0 > warm 4
	`)
}

func TestCold(t *testing.T) {
	script(t, `
		func 0 1
		func 1 1
		host 0 9
		!call 0 > cold 1
		tick > boot 1 0 0, boot 2 0 0
		# not the one that was booted last
		!call 0 > cold 1
		!call 0 > cold 3
		!call 0 > boot 3 0 0, cold 2
		!call 0 > boot 3 0 0, cold 1
		!call 0 > boot 3 0 0, cold 4
		!call 0 > boot 3 0 0, boot 4 0 0, cold 3
		# another function's, or of one that there isn't
		!call 1 > cold 2
		!call 0 > boot 3 1 0, cold 3
		!call 1 > boot 3 0 0, cold 3
		!call 2 > boot 3 0 0, cold 3
		# not there, though the last one
		!call 0 > boot 3 0 0, kill 3 0 0, cold 3
		!call 0 > boot 3 0 0, kill 3 0 0, cold 2
		!call 0 > kill 2 0 0, cold 2
		!call 0 > kill 2 0 0, cold 1
		# the last one, though by a step before
		call 0 > cold 2
		# it is busy
		!call 0 > cold 2
		booted 2
		# it doesn't boot
		!call 0 > cold 2
		done 2
		!call 0 > cold 2
		tick > boot 3 1 0
		booted 3
		!call 1 > cold 3
		call 1 > warm 3
		!call 1 > cold 3
		# a kill stands ahead, or behind
		call 0 > kill 1 0 0, boot 4 0 0, cold 4
		call 1 > boot 5 1 0, kill 2 0 0, cold 5
		call 1 > boot 6 0 0, boot 7 1 0, cold 7
		# one that was booted by a step before, with a command that is no boot
		tick > boot 8 0 0
		call 0 > kill 6 0 0, cold 8
		tick > boot 9 0 0
		tick > kill 9 0 0
		# the last one is gone, and the one ahead of it isn't the last by that
		!call 0 > cold 9
		tick > boot 10 0 0
		tick > boot 11 0 0
		broke 11
		!call 0 > cold 10
		!call 0 > cold 11
		fail 0
		!call 0 > cold 11
	`)
}

func TestThrottled(t *testing.T) {
	script(t, `
		call 0 > throttled function
		call 7 > throttled account
		func 0 1
		host 0 9
		call 0 > throttled tokens
		tick > boot 1 0 0
		booted 1
		# whether the reason holds isn't seen from outside
		call 0 > throttled room
		!call 0 > boot 2 0 0, throttled room
		!call 0 > kill 1 0 0, throttled room
		!call 0 > kill 1 0 0, throttled account
		!call 0 > kill 1 0 0, boot 2 0 0, throttled tokens
		# it runs in none
		tick > kill 1 0 0
	`)
}

func TestCallsThatAreTaken(t *testing.T) {
	script(t, `
		!call 0
		func 0 1
		host 0 9
		!call 0
		!call 0 > boot 1 0 0
		tick > boot 1 0 0
		!call 0
		booted 1
		!call 0
		!call 0 > kill 1 0 0
		call 0 > refused none
	`)
}

// First

// Of several that may not be the first one is told, whatever stands behind it.
func TestTheFirst(t *testing.T) {
	list := stepsOf(t, `
		func 0 1
		host 0 1
		done 1
		tick > boot 1 0 0
		booted 1
		booted 1
		tick > boot 9 0 0
	`)
	is(t, list, 2)
	list = append(list[:2:2], list[3:]...)
	is(t, list, 4)
	list = append(list[:4:4], list[5:]...)
	is(t, list, 4)
	list[1].Event.N = -1
	is(t, list, 1)
	list[0].Answer.Kind = -1
	is(t, list, 0)
}

// long is many steps, all of which may be.
func long(rounds int) []audit.Step {
	list := []audit.Step{
		{Event: event.Event{Kind: event.Func, Mem: 2}},
		{Event: event.Event{Kind: event.Host, Size: 3}},
	}
	for n := 1; n <= rounds; n++ {
		list = append(list,
			audit.Step{Event: event.Event{Kind: event.Call}, Answer: reply.Answer{Kind: reply.Cold, Box: n}, Commands: []reply.Command{{Boot: true, Box: n}}},
			audit.Step{Event: event.Event{Kind: event.Booted, N: n}},
			audit.Step{Event: event.Event{Kind: event.Done, N: n}, Commands: []reply.Command{{Box: n}}},
		)
	}
	return list
}

func TestLongRows(t *testing.T) {
	list := long(100000)
	for at := range list {
		if at%50021 != 7 {
			continue
		}
		was := list[at].Event
		list[at].Event.N = -1
		if got := audit.First(list); got != at {
			t.Errorf("%d, want %d", got, at)
		}
		list[at].Event = was
	}
	if got := audit.First(list); got != -1 {
		t.Errorf("%d of steps that all may be", got)
	}
}

// Much that is there at once: a step doesn't take a look at all of it.
func TestMuchThatIsThere(t *testing.T) {
	const n = 100000
	var many, one []audit.Step
	one = append(one, audit.Step{Event: event.Event{Kind: event.Host, Size: n}}, audit.Step{Event: event.Event{Kind: event.Func, Mem: 1}})
	many = append(many, audit.Step{Event: event.Event{Kind: event.Host, Size: n}})
	for i := range n {
		one = append(one, boot(i+1, 0, 0))
		many = append(many, audit.Step{Event: event.Event{Kind: event.Func, N: i, Mem: 1}}, boot(i+1, i, 0))
	}
	for i := range n {
		one = append(one, audit.Step{Event: event.Event{Kind: event.Func, Mem: (i + 1) % 2}}, audit.Step{Event: event.Event{Kind: event.Fail, N: 1 + i}})
	}
	for name, list := range map[string][]audit.Step{"of many functions": many, "of one function": append(one, audit.Step{Event: event.Event{Kind: event.Func, Mem: 1}})} {
		if got := audit.First(list); got != -1 {
			t.Errorf("%s: %d", name, got)
		}
		if got := audit.First(append(list, boot(n+1, 0, 0))); got != len(list) {
			t.Errorf("%s: %d, want %d", name, got, len(list))
		}
	}
}

// Rule 3: what is handed in stays as it is. Rule 4: and what is told hangs on it alone.
func TestTheListStays(t *testing.T) {
	fresh := func() []audit.Step {
		return stepsOf(t, `
			func 0 1
			host 0 2
			tick > boot 1 0 0, boot 2 0 0
			booted 1
			call 0 > warm 1
			done 1 > kill 1 0 0
			host 0 9 > refused state
			call 0 > boot 3 0 0, cold 3
			done 3
			tick > kill 9 9 9
		`)
	}
	list := fresh()
	for range 3 {
		is(t, list, 8)
		is(t, list[:8], -1)
		is(t, list[1:], 1)
		if !reflect.DeepEqual(list, fresh()) {
			t.Fatalf("the list is\n%s", told(list))
		}
	}
	// The same steps behind themselves: the numbers of sandboxes don't begin anew.
	twice := append(list[:8:8], list[:8]...)
	is(t, twice, 10)
	// Neither room behind a list nor one between its commands is read or written.
	room := append(fresh(), fresh()...)
	room[2].Commands = room[2].Commands[:1]
	is(t, room[:4], -1)
	is(t, room[:5], -1)
	if c := room[2].Commands[:2]; c[1] != (reply.Command{Boot: true, Box: 2}) {
		t.Errorf("behind the commands stands %v", c)
	}
}

// P19.2 of commands with any numbers: none panics.
func TestCommandsWithAnyNumbers(t *testing.T) {
	ahead := stepsOf(t, `
		func 0 1
		host 0 2
		tick > boot 1 0 0
	`)
	list := []int{math.MinInt, -event.Most, -1, 0, 1, 2, 3, event.Most, event.Most + 1, 1 << 32, math.MaxInt}
	for _, id := range list {
		for _, fn := range list {
			for _, h := range list {
				for _, boots := range []bool{true, false} {
					want := len(ahead)
					if c := fmt.Sprint(boots, id, fn, h); c == "true 2 0 0" || c == "false 1 0 0" {
						want = -1
					}
					is(t, append(ahead, audit.Step{Commands: []reply.Command{{Boot: boots, Box: id, Func: fn, Host: h}}}), want)
				}
			}
		}
	}
}
