package play_test

import (
	"fmt"
	"slices"
	"testing"

	"greenhouse/api"
	"greenhouse/audit"
	"greenhouse/event"
	"greenhouse/play"
	"greenhouse/reply"
)

func TestExamples(t *testing.T) {
	if got := play.Run([]byte{6, 5}); !slices.Equal(got, []string{"refused none"}) {
		t.Errorf("6 5 tells %q", got)
	}
	script(t, `call 5 > refused none`)
	script(t, `
		account 0 1 1 0
		func 0 0 2 1 0 0
		host 0 2
		call 0 > boot 1 0 0, cold 1
		call 0 > throttled account
	`)
}

// P20.1, P20.2: nothing

func TestNothing(t *testing.T) {
	for _, list := range [][]event.Event{nil, {}, make([]event.Event, 0, 9)} {
		c, steps := play.Events(list)
		sameWorld(t, "behind no events", c, newModel())
		if len(steps) != 0 || len(play.Lines(steps)) != 0 {
			t.Errorf("steps of no events are %v", steps)
		}
	}
	for _, b := range [][]byte{nil, {}, make([]byte, 0, 9)} {
		c, steps, at, err := play.Bytes(b)
		sameWorld(t, "behind no bytes", c, newModel())
		if len(steps) != 0 || at != 0 || err != api.OK {
			t.Errorf("no bytes: %v, %d, %q", steps, at, err.Word())
		}
		if lines := play.Run(b); len(lines) != 0 {
			t.Errorf("no bytes tell %q", lines)
		}
	}
	if lines := append(play.Lines(nil), play.Lines([]audit.Step{})...); len(lines) != 0 {
		t.Errorf("no steps tell %q", lines)
	}
}

// P20.1, P20.2: events of each Kind

func TestEachKind(t *testing.T) {
	_, steps := script(t, `
		tick
		account 16 1 1 1 > refused arg
		account 0 3 3 1
		func 64 0 2 1 0 0 > refused arg
		func 0 1 2 1 0 0 > refused none
		func 0 0 2 1 2 0
		func 0 0 3 1 2 0 > refused state
		func 0 0 2 1 2 3 > refused quota
		func 1 0 1 1 0 1
		account 0 1 1 1 > refused quota
		host 32 1 > refused arg
		host 0 4 > boot 1 1 0, ok
		host 0 4 > refused state
		call 0 > boot 2 0 0, cold 2
		call 0 > throttled room
		call 2 > refused none
		booted 3 > refused none
		booted 2
		booted 2 > refused state
		done 1 > refused state
		done 3 > refused none
		done 2
		call 0 > warm 2
		call 0 > throttled room
		drain 1 > refused none
		drain 0 > kill 1 1 0, ok
		drain 0 > refused state
		fail 1 > refused none
		broke 1 > refused none
		broke 2
		fail 0 > refused none
		host 0 4 > boot 3 1 0, ok
		booted 3
		func 0 0 2 1 1 1 > boot 4 0 0, ok
		account 0 3 0 1
		call 0 > throttled tokens
		tick
		booted 4
		call 0 > warm 4
		call 0 > throttled function
		call 1 > warm 3
		account 0 2 1 1
		call 1 > throttled account
		fail 0
		tick
	`)
	seen := map[string]int{}
	for _, s := range steps {
		word := kinds[s.Event.Kind]
		if s.Answer.Kind == reply.Refused {
			word += " refused"
			seen[s.Answer.String()]++
		}
		seen[word]++
	}
	for _, word := range kinds {
		if seen[word] == 0 || word != "tick" && seen[word+" refused"] == 0 {
			t.Errorf("%s came %d times, and was refused %d times", word, seen[word], seen[word+" refused"])
		}
	}
	for _, word := range []string{"arg", "none", "state", "quota"} {
		if seen["refused "+word] == 0 {
			t.Errorf("nothing was refused %s", word)
		}
	}
}

// Commands come ahead of the answer, in their order: none, one, some, many.
func TestCommandsAheadOfAnswers(t *testing.T) {
	script(t, `
		account 0 99 99 0
		func 0 0 1 1 0 3
		func 1 0 1 1 0 0
		func 2 0 3 1 0 0
		host 5 3 > boot 1 0 5, boot 2 0 5, boot 3 0 5, ok
		booted 2
		booted 1
		call 0 > warm 1
		drain 5 > kill 2 0 5, kill 3 0 5, ok
		host 6 1 > boot 4 0 6, ok
		host 7 9 > boot 5 0 7, boot 6 0 7, ok
		done 1 > kill 1 0 5, ok
		func 0 0 1 1 0 0
		booted 6
		booted 4
		booted 5
		call 1 > boot 7 1 7, cold 7
		call 1 > boot 8 1 7, cold 8
		call 1 > boot 9 1 7, cold 9
		call 1 > boot 10 1 7, cold 10
		call 2 > boot 11 2 7, cold 11
		call 2 > throttled room
		booted 11
		broke 7
		fail 6
		call 0 > warm 5
		tick x9
		tick > kill 6 0 7, ok
		fail 7
	`)
}

// P20.1: events that aren't Right are done as they are: refused, and nothing turns.
func TestNotRight(t *testing.T) {
	good := eventsOf(t, `
		account 0 9 9 0
		func 0 0 2 1 0 1
		host 0 9
		call 0
		booted 1
		call 0
	`)
	wrong := []event.Event{
		{Kind: -1}, {Kind: event.Done + 1}, {N: 1}, {Kind: event.Tick, Keep: 1},
		{Kind: event.Account, N: 1, Limit: -1}, {Kind: event.Account, N: 1, Mem: 1}, {Kind: event.Account, Limit: event.Most + 1},
		{Kind: event.Func, N: 1, Mem: 1, Cost: 1, Keep: -1}, {Kind: event.Func, N: 1, Mem: 1, Cost: 1, Size: 1},
		{Kind: event.Host, N: 1, Size: -5}, {Kind: event.Host, N: 1, Size: 1, Limit: 1}, {Kind: event.Drain, Size: 1}, {Kind: event.Fail, N: -1},
		{Kind: event.Call, Account: 1}, {Kind: event.Booted, N: 2, Cost: 1}, {Kind: event.Broke, N: 1, Limit: 1}, {Kind: event.Done, N: 1, Refill: 1},
	}
	plain, want := play.Events(good)
	var list []event.Event
	for _, e := range good {
		list = append(append(list, wrong...), e)
	}
	list = append(list, wrong...)
	c, steps := play.Events(list)
	sameWorld(t, "with events that aren't Right", c, plain)
	m, own := modelOf(list)
	sameSteps(t, "with events that aren't Right", steps, own)
	sameWorld(t, "with events that aren't Right", c, m)
	var rest []audit.Step
	for i, s := range steps {
		if s.Event != list[i] {
			t.Fatalf("step %d is of %+v, want %+v", i, s.Event, list[i])
		}
		if s.Event.Right() {
			rest = append(rest, s)
		} else if s.Answer != (reply.Answer{Kind: reply.Refused, Err: api.ErrArg}) || len(s.Commands) > 0 {
			t.Fatalf("step %d: %s", i, told(steps[i:i+1]))
		}
	}
	sameSteps(t, "those that are Right", rest, want)
	if n := len(steps) - len(rest); n != len(wrong)*(len(good)+1) {
		t.Errorf("%d weren't Right", n)
	}
}

// P20.1: Events has no limit of its own.
func TestMoreEventsThanBytesMayTell(t *testing.T) {
	list := make([]event.Event, api.MaxEvents+5)
	list[len(list)-1] = event.Event{Kind: event.Call}
	c, steps := play.Events(list)
	if len(steps) != len(list) || c.Now() != api.MaxEvents+4 || steps[len(list)-1].Answer.Err != api.ErrNone {
		t.Errorf("%d steps, now %d", len(steps), c.Now())
	}
}

// P20.1, P20.2: bytes that stop

func TestStops(t *testing.T) {
	const tick, call = byte(event.Tick), byte(event.Call)
	most := raw(event.Most)
	for _, c := range []struct {
		b    []byte
		n    int
		at   int
		err  api.Errno
		last string
	}{
		{[]byte{tick}, 1, 1, api.OK, "ok"},
		{[]byte{call, 0}, 1, 2, api.OK, "refused none"},
		{append([]byte{call}, most...), 1, 6, api.OK, "refused none"},
		// None from the first byte on.
		{[]byte{10}, 0, 0, api.ErrArg, "error arg at 0"},
		{[]byte{127, tick, tick}, 0, 0, api.ErrArg, "error arg at 0"},
		{[]byte{255}, 0, 0, api.ErrForm, "error form at 0"},
		{[]byte{128, 0}, 0, 0, api.ErrForm, "error form at 0"},
		{[]byte{138, 0, tick}, 0, 0, api.ErrForm, "error form at 0"},
		{[]byte{128, 1}, 0, 0, api.ErrArg, "error arg at 0"},
		{[]byte{call}, 0, 0, api.ErrForm, "error form at 0"},
		{[]byte{call, 128}, 0, 0, api.ErrForm, "error form at 0"},
		{append([]byte{call}, raw(event.Most+1)...), 0, 0, api.ErrArg, "error arg at 0"},
		// Some are.
		{[]byte{tick, tick, 10}, 2, 2, api.ErrArg, "error arg at 2"},
		{[]byte{tick, tick, call}, 2, 2, api.ErrForm, "error form at 2"},
		{[]byte{tick, call, 5, call, 133, 0}, 2, 3, api.ErrForm, "error form at 3"},
		{[]byte{tick, 1, 0, 1, 1}, 1, 1, api.ErrForm, "error form at 1"},
		{[]byte{tick, 2, 0, 0, 1, 1, 0, 77, 99}, 2, 8, api.ErrArg, "error arg at 8"},
		{[]byte{tick, 2, 0, 0, 1, 1, 0}, 1, 1, api.ErrForm, "error form at 1"},
		{slices.Concat([]byte{tick, 3, 0}, raw(1<<31), []byte{tick}), 1, 1, api.ErrArg, "error arg at 1"},
		{slices.Concat([]byte{call, 1, tick, tick, call}, raw(1<<40)), 3, 4, api.ErrArg, "error arg at 4"},
		{slices.Concat(make([]byte, 1000), []byte{9, 255, 255, 255, 255, 255, 255, 255, 255, 255, 2}), 1000, 1000, api.ErrForm, "error form at 1000"},
		{slices.Concat(make([]byte, 1000), []byte{9, 255, 255, 255, 255, 255, 255, 255, 255, 255, 1}), 1000, 1000, api.ErrArg, "error arg at 1000"},
	} {
		steps, at, err := agree(t, c.b)
		if len(steps) != c.n || at != c.at || err != c.err {
			t.Errorf("%v: %d steps, %d, %q", c.b, len(steps), at, err.Word())
		}
		lines := play.Run(c.b)
		want := play.Lines(steps)
		if c.err != api.OK {
			want = append(want, c.last)
		}
		sameLines(t, fmt.Sprint(c.b), lines, want)
		if lines[len(lines)-1] != c.last {
			t.Errorf("%v: the last line is %q, want %q", c.b, lines[len(lines)-1], c.last)
		}
	}
}

// long is a script with bytes of all kinds of numbers.
const long = `
	account 0 300 200 1
	func 0 0 2 500 0 1
	func 63 0 300 1000 0 0
	host 31 4096 > boot 1 0 31, ok
	call 63 > boot 2 63 31, cold 2
	booted 2
	call 2147483647 > refused none
	booted 1
	done 2
	call 0 > warm 1
	tick
	drain 31
	done 1
`

// P20.1: each beginning of a script does what the whole of it does first, and tells where it stops.
func TestEachBeginning(t *testing.T) {
	list := eventsOf(t, long)
	b := bytesOf(list...)
	all := play.Run(b)
	lines := 0
	for n, whole, next := 0, 0, 0; n <= len(b); n++ {
		// How many events are whole, and at which byte the next one begins.
		for whole < len(list) && next+len(bytesOf(list[whole])) <= n {
			next += len(bytesOf(list[whole]))
			whole++
		}
		c, steps, at, err := play.Bytes(b[:n])
		core, want := play.Events(list[:whole])
		sameWorld(t, fmt.Sprint(n, " bytes"), c, core)
		sameSteps(t, fmt.Sprint(n, " bytes"), steps, want)
		if stops := n > next; at != next || (err == api.ErrForm) != stops || (err == api.OK) == stops {
			t.Fatalf("%d bytes: stopped at %d, %q; %d are whole", n, at, err.Word(), whole)
		}
		told := play.Run(b[:n])
		if err != api.OK {
			if got := told[len(told)-1]; got != fmt.Sprint("error form at ", next) {
				t.Fatalf("%d bytes: the last line is %q", n, got)
			}
			told = told[:len(told)-1]
		}
		sameLines(t, fmt.Sprint(n, " bytes"), told, all[:len(told)])
		lines = len(told)
	}
	if lines != len(all) {
		t.Errorf("%d lines of %d", lines, len(all))
	}
}

// P20.1: just as many events as there may be, and one more.
func TestMostEvents(t *testing.T) {
	b := make([]byte, api.MaxEvents)
	for _, c := range []struct {
		behind []byte
		n, at  int
		err    api.Errno
	}{
		{nil, api.MaxEvents, api.MaxEvents, api.OK},
		{[]byte{0}, api.MaxEvents, api.MaxEvents, api.ErrMany},
		{[]byte{0, 0, 0, 99}, api.MaxEvents, api.MaxEvents, api.ErrMany},
		{[]byte{6, 5}, api.MaxEvents, api.MaxEvents, api.ErrMany},
		// What is no event isn't one too many.
		{[]byte{10}, api.MaxEvents, api.MaxEvents, api.ErrArg},
		{[]byte{6}, api.MaxEvents, api.MaxEvents, api.ErrForm},
	} {
		all := append(slices.Clone(b), c.behind...)
		core, steps, at, err := play.Bytes(all)
		if len(steps) != c.n || at != c.at || err != c.err || core.Now() != int64(c.n) {
			t.Errorf("behind it %v: %d steps, %d, %q, now %d", c.behind, len(steps), at, err.Word(), core.Now())
		}
		want := slices.Repeat([]string{"ok"}, c.n)
		if c.err != api.OK {
			want = append(want, fmt.Sprint("error ", c.err.Word(), " at 16384"))
		}
		sameLines(t, fmt.Sprint("behind it ", c.behind), play.Run(all), want)
	}
	// One less, of which the last one is none.
	agree(t, append(b[:api.MaxEvents-1:api.MaxEvents-1], 6))
}

// P20.1: just as many bytes as there may be, and one more.
func TestMostBytes(t *testing.T) {
	// Of 16 bytes each there are as many events as there may be, too.
	one := bytesOf(event.Event{Kind: event.Account, N: 1 << 30, Limit: 1 << 30, Size: 1 << 21})
	if len(one) != 16 {
		t.Fatalf("%d bytes", len(one))
	}
	b := slices.Repeat(one, api.MaxEvents)
	if len(b) != api.MaxBytes {
		t.Fatalf("%d bytes", len(b))
	}
	_, steps, at, err := play.Bytes(b)
	if len(steps) != api.MaxEvents || at != api.MaxBytes || err != api.OK {
		t.Errorf("%d steps, %d, %q", len(steps), at, err.Word())
	}
	sameLines(t, "as many bytes as there may be", play.Run(b), slices.Repeat([]string{"refused arg"}, api.MaxEvents))

	// Whatever they begin with: not one event is done.
	for _, b := range [][]byte{append(b, 0), make([]byte, api.MaxBytes+1), slices.Repeat([]byte{255}, 2*api.MaxBytes)} {
		c, steps, at, err := play.Bytes(b)
		sameWorld(t, "behind too many bytes", c, newModel())
		if len(steps) != 0 || at != 0 || err != api.ErrMany {
			t.Errorf("%d bytes: %d steps, %d, %q", len(b), len(steps), at, err.Word())
		}
		sameLines(t, "too many bytes", play.Run(b), []string{"error many at 0"})
	}
	// As many bytes as there may be, of which the last ones are none, or too many.
	wide := bytesOf(event.Event{Kind: event.Func, N: event.Most, Account: event.Most, Mem: event.Most, Cost: event.Most, Reserved: event.Most, Keep: event.Most})
	for _, last := range [][]byte{nil, {6}, {10}, slices.Repeat([]byte{255}, 7)} {
		b := slices.Repeat(wide, api.MaxBytes/len(wide))
		b = append(b, make([]byte, api.MaxBytes-len(b)-len(last))...)
		b = append(b, last...)
		if len(b) != api.MaxBytes {
			t.Fatalf("%d bytes", len(b))
		}
		agree(t, b)
	}
}

// P20.2: Lines of any steps, those that no core does, too.
func TestLinesOfAnySteps(t *testing.T) {
	const least, most = -1 << 63, 1<<63 - 1
	boot := reply.Command{Boot: true, Box: 7, Func: 8, Host: 9}
	kill := reply.Command{Box: 3, Func: 2, Host: 1}
	for _, c := range []struct {
		step audit.Step
		want []string
	}{
		{audit.Step{}, []string{"ok"}},
		{audit.Step{Event: event.Event{Kind: 77, N: -1}}, []string{"ok"}},
		{audit.Step{Answer: reply.Answer{Kind: reply.Warm, Box: event.Most}}, []string{"warm 2147483647"}},
		{audit.Step{Answer: reply.Answer{Kind: reply.Cold, Box: 1}}, []string{"cold 1"}},
		{audit.Step{Answer: reply.Answer{Kind: reply.Refused, Err: api.ErrMany}}, []string{"refused many"}},
		{audit.Step{Answer: reply.Answer{Kind: reply.Refused, Err: api.ErrForm}}, []string{"refused form"}},
		{audit.Step{Answer: reply.Answer{Kind: reply.Throttled, Why: reply.OfFunction}}, []string{"throttled function"}},
		{audit.Step{Answer: reply.Answer{Kind: reply.Throttled, Why: reply.NoRoom}}, []string{"throttled room"}},
		{audit.Step{Commands: []reply.Command{boot}}, []string{"boot 7 8 9", "ok"}},
		{audit.Step{Commands: []reply.Command{kill, boot, kill}}, []string{"kill 3 2 1", "boot 7 8 9", "kill 3 2 1", "ok"}},
		{audit.Step{Answer: reply.Answer{Kind: reply.Refused, Err: api.ErrArg}, Commands: []reply.Command{kill}}, []string{"kill 3 2 1", "refused arg"}},
		{audit.Step{Commands: []reply.Command{{Boot: true, Box: least, Func: -1, Host: most}}}, []string{"boot -9223372036854775808 -1 9223372036854775807", "ok"}},
		// The String of an answer that isn't Right is no text: a line it is nonetheless.
		{audit.Step{Answer: reply.Answer{Kind: reply.Warm}}, []string{""}},
		{audit.Step{Answer: reply.Answer{Kind: reply.Refused}}, []string{""}},
		{audit.Step{Answer: reply.Answer{Kind: reply.Throttled, Box: 1, Why: reply.NoRoom}}, []string{""}},
		{audit.Step{Answer: reply.Answer{Kind: 9}, Commands: []reply.Command{boot, kill}}, []string{"boot 7 8 9", "kill 3 2 1", ""}},
	} {
		sameLines(t, told([]audit.Step{c.step}), play.Lines([]audit.Step{c.step}), c.want)
		twice := play.Lines([]audit.Step{c.step, {}, c.step})
		sameLines(t, "twice "+told([]audit.Step{c.step}), twice, slices.Concat(c.want, []string{"ok"}, c.want))
	}
}
