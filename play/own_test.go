package play_test

import (
	"fmt"
	"slices"
	"testing"

	"greenhouse/api"
	"greenhouse/audit"
	"greenhouse/event"
	"greenhouse/play"
	"greenhouse/reply"
)

// hostsThatGo is the climate in which there is most of everything.
var hostsThatGo = climates[5]

// P20.1: the core that is told is the one that did the events, and it can go on; and events behind others are done as if they came at one time.
func TestGoesOn(t *testing.T) {
	for _, c := range climates {
		list := scriptIn(c, 40, 5, 300)
		whole, want := play.Events(list)
		for _, n := range []int{0, 1, 30, 150, 299, 300} {
			for name, begin := range map[string]func() (stepper, []audit.Step){
				"Events": func() (stepper, []audit.Step) { return play.Events(list[:n]) },
				"Bytes": func() (stepper, []audit.Step) {
					c, steps, _, _ := play.Bytes(bytesOf(list[:n]...))
					return c, steps
				},
				// What stops it turns nothing.
				"Bytes that stop": func() (stepper, []audit.Step) {
					c, steps, _, _ := play.Bytes(append(bytesOf(list[:n]...), 3, 0))
					return c, steps
				},
			} {
				x, steps := begin()
				sameSteps(t, name, steps, want[:n])
				for i, e := range list[n:] {
					a, commands := x.Do(e)
					sameSteps(t, name+" and on", []audit.Step{{Event: e, Answer: a, Commands: commands}}, want[n+i:n+i+1])
				}
				if got := see(x); got != see(whole) {
					t.Fatalf("%s, %d and then the others: there is\n%swant\n%s", name, n, got, see(whole))
				}
			}
			// The lines of a beginning are the first ones of all.
			first := play.Run(bytesOf(list[:n]...))
			sameLines(t, "the first ones", first, play.Lines(want)[:len(first)])
			sameLines(t, "in parts", slices.Concat(play.Lines(want[:n]), play.Lines(want[n:])), play.Lines(want))
		}
	}
}

// stepper is a core that does events.
type stepper interface {
	world
	Do(e event.Event) (reply.Answer, []reply.Command)
}

// P20.1: each call tells a core of its own.
func TestOwnCores(t *testing.T) {
	list := scriptIn(hostsThatGo, 41, 5, 200)
	b := bytesOf(list...)
	x, _ := play.Events(list)
	y, _ := play.Events(list)
	z, _, _, _ := play.Bytes(b)
	n, _ := play.Events(nil)
	was, none := see(x), see(n)
	for _, e := range scriptIn(hostsThatGo, 42, 5, 200) {
		y.Do(e)
	}
	if see(x) != was || see(z) != was || see(n) != none || see(y) == was {
		t.Errorf("events of one core turn another one")
	}
	y, _ = play.Events(list)
	w, _, _, _ := play.Bytes(b)
	if see(y) != was || see(w) != was {
		t.Errorf("a call behind others begins with what they left")
	}
	if x == y || x == z || z == w {
		t.Errorf("a core is told twice")
	}
}

// The same list and the same bytes twice, and with others between.
func TestTheSameTwice(t *testing.T) {
	var first []string
	for range 3 {
		var all []string
		for i, c := range climates {
			list := scriptIn(c, 43, 5, 200)
			x, steps := play.Events(list)
			y, same, at, err := play.Bytes(bytesOf(list...))
			if see(x) != see(y) || told(steps) != told(same) {
				t.Fatalf("%s: Events and Bytes aren't the same", c.name)
			}
			all = append(all, see(x), told(steps), fmt.Sprint(at, err, i))
			all = append(all, play.Run(bytesOf(list...))...)
			all = append(all, play.Lines(steps)...)
		}
		if first == nil {
			first = all
		}
		sameLines(t, "once more", all, first)
	}
}

// Rule 3: what is handed in stays, and isn't kept; what is told shares nothing with it, and nothing turns it.
func TestWhatIsHandedIn(t *testing.T) {
	list := scriptIn(hostsThatGo, 44, 5, 300)
	was := slices.Clone(list)
	c, steps := play.Events(list)
	before, seen := told(steps), see(c)
	if !slices.Equal(list, was) {
		t.Errorf("Events turns its list")
	}
	clear(list)
	if told(steps) != before || see(c) != seen {
		t.Errorf("the steps, or the core, hang on the list")
	}

	b := append(bytesOf(was...), 10, 10)
	wasBytes := slices.Clone(b)
	c, steps, _, _ = play.Bytes(b[:len(b)-1])
	lines := play.Run(b[:len(b)-1])
	if !slices.Equal(b, wasBytes) {
		t.Errorf("the bytes, or what is behind them, aren't what they were")
	}
	joined := fmt.Sprint(lines)
	clear(b)
	if told(steps) != before || see(c) != seen || fmt.Sprint(lines) != joined {
		t.Errorf("what is told hangs on the bytes")
	}

	own := play.Lines(steps)
	if told(steps) != before {
		t.Errorf("Lines turns the steps")
	}
	joined = fmt.Sprint(own)
	for i := range steps {
		clear(steps[i].Commands)
		steps[i].Answer = reply.Answer{Kind: reply.Warm, Box: 1}
	}
	if fmt.Sprint(own) != joined {
		t.Errorf("lines hang on the steps")
	}
}

// Rule 3: nothing of what is told is written to by later calls, and nobody shares it.
func TestWhatIsTold(t *testing.T) {
	list := scriptIn(hostsThatGo, 45, 5, 300)
	more := scriptIn(hostsThatGo, 46, 5, 300)
	plain, _ := play.Events(list)
	c, steps := play.Events(list)
	was := told(steps)
	var behind []string
	for _, e := range more {
		a, commands := plain.Do(e)
		behind = append(behind, fmt.Sprint(a, commands))
	}
	// All that is told is written over, up to what its memory holds: no other step's commands, and no core's, are in there.
	for i := range steps {
		all := steps[i].Commands[:cap(steps[i].Commands)]
		kept := slices.Clone(all)
		for k := range all {
			all[k] = reply.Command{Box: -9}
		}
		for k, s := range steps {
			if k != i && slices.ContainsFunc(s.Commands, func(c reply.Command) bool { return c.Box == -9 }) {
				t.Fatalf("the steps %d and %d share commands", i, k)
			}
		}
		copy(all, kept)
	}
	if told(steps) != was {
		t.Fatal("the steps aren't what they were")
	}
	for i := range steps {
		clear(steps[i].Commands[:cap(steps[i].Commands)])
	}
	clear(steps[:cap(steps)])
	for i, e := range more {
		a, commands := c.Do(e)
		if got := fmt.Sprint(a, commands); got != behind[i] {
			t.Fatalf("event %d, %+v: %s, want %s", i, e, got, behind[i])
		}
	}

	b := bytesOf(list...)
	lines := play.Run(b)
	again := slices.Clone(lines)
	clear(lines[:cap(lines)])
	sameLines(t, "once more", play.Run(b), again)
	_, steps, _, _ = play.Bytes(b)
	lines = play.Lines(steps)
	clear(lines[:cap(lines)])
	sameLines(t, "once more", play.Lines(steps), again)
}

// P20.2: Run's lines are those of Bytes' steps, and of an error one line more, whatever bytes.
func TestRunIsLinesOfBytes(t *testing.T) {
	d := dice(9)
	for _, c := range climates {
		for n := range 20 {
			b := bytesOf(scriptIn(c, 50+n, 5, 120)...)
			b = append(b[:d.under(len(b)+1)], byte(d.under(256)))
			_, steps, at, err := play.Bytes(b)
			want := play.Lines(steps)
			if err != api.OK {
				want = append(want, fmt.Sprint("error ", err.Word(), " at ", at))
			}
			sameLines(t, "Run", play.Run(b), want)
		}
	}
}
