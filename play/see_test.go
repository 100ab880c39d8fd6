package play_test

import (
	"fmt"
	"slices"
	"strings"
	"testing"

	"greenhouse/api"
	"greenhouse/audit"
	"greenhouse/box"
	"greenhouse/core"
	"greenhouse/event"
	"greenhouse/play"
	"greenhouse/policy"
	"greenhouse/reply"
)

// world is what a core tells, so that the model can be asked likewise.
type world interface {
	Now() int64
	Boxes() []box.Box
	Ends(id int) (int64, bool)
	Boots(f int) (int64, bool)
	Window(f int) (policy.Window, bool)
	Busy(f int) int
	Tokens(a int) (int, bool)
	Free(h int) int
	Answered(k reply.Kind) int64
}

// see is all that is to be seen of a world: what has a zero answer isn't written.
func see(w world) string {
	var s strings.Builder
	fmt.Fprintln(&s, "now", w.Now())
	last := 0
	for _, b := range w.Boxes() {
		end, ok := w.Ends(b.ID)
		fmt.Fprintf(&s, "box %+v ends %d %v\n", b, end, ok)
		last = b.ID
	}
	for id := -1; id < last+3; id++ {
		if end, ok := w.Ends(id); ok {
			fmt.Fprintln(&s, id, "ends", end)
		}
	}
	for f := -1; f <= api.MaxFuncs; f++ {
		at, ok := w.Boots(f)
		x, is := w.Window(f)
		if ok || is || at != 0 || x != (policy.Window{}) || w.Busy(f) != 0 {
			fmt.Fprintln(&s, "func", f, at, ok, x, is, w.Busy(f))
		}
	}
	for a := -1; a <= api.MaxAccounts; a++ {
		if n, ok := w.Tokens(a); ok || n != 0 {
			fmt.Fprintln(&s, "account", a, n, ok)
		}
	}
	for h := -1; h <= api.MaxHosts; h++ {
		if n := w.Free(h); n != 0 {
			fmt.Fprintln(&s, "host", h, n)
		}
	}
	for k := reply.Taken - 1; k <= reply.Throttled+1; k++ {
		fmt.Fprintln(&s, "answered", k, w.Answered(k))
	}
	return s.String()
}

// told is steps as words, with their events: the same just if the steps are.
func told(steps []audit.Step) string {
	var s strings.Builder
	for i, x := range steps {
		fmt.Fprintf(&s, "%d: %+v", i, x.Event)
		for _, c := range x.Commands {
			fmt.Fprintf(&s, ", %#v", c)
		}
		fmt.Fprintf(&s, ", %#v\n", x.Answer)
	}
	return s.String()
}

// sameSteps sees that steps are those.
func sameSteps(t *testing.T, what string, got, want []audit.Step) {
	t.Helper()
	if len(got) != len(want) {
		t.Fatalf("%s: %d steps, want %d", what, len(got), len(want))
	}
	for i, s := range got {
		w := want[i]
		if s.Event != w.Event || s.Answer != w.Answer || !slices.Equal(s.Commands, w.Commands) {
			t.Fatalf("%s: step %d is\n%swant\n%s", what, i, told(got[i:i+1]), told(want[i:i+1]))
		}
	}
}

// sameWorld sees that all that is to be seen of a core is that of another world.
func sameWorld(t *testing.T, what string, c *core.Core, want world) {
	t.Helper()
	if c == nil {
		t.Fatalf("%s: no core", what)
	}
	if got, want := see(c), see(want); got != want {
		t.Fatalf("%s: there is\n%swant\n%s", what, got, want)
	}
}

// sameLines sees that lines are those.
func sameLines(t *testing.T, what string, got, want []string) {
	t.Helper()
	for i := range min(len(got), len(want)) {
		if got[i] != want[i] {
			t.Fatalf("%s: line %d is %q, want %q", what, i, got[i], want[i])
		}
	}
	if len(got) != len(want) {
		t.Fatalf("%s: %d lines, want %d; the last ones are %q, want %q", what, len(got), len(want), lastOf(got), lastOf(want))
	}
}

func lastOf(lines []string) []string { return lines[max(0, len(lines)-2):] }

// raw is numbers as bytes, by the words of layer 3.
func raw(list ...int) []byte {
	var b []byte
	for _, n := range list {
		for ; n >= 128; n /= 128 {
			b = append(b, byte(128+n%128))
		}
		b = append(b, byte(n))
	}
	return b
}

// numbers of an event, its Kind ahead.
func numbers(e event.Event) []int {
	all := []int{int(e.Kind), e.N}
	switch e.Kind {
	case event.Tick:
		return all[:1]
	case event.Account:
		return append(all, e.Limit, e.Size, e.Refill)
	case event.Func:
		return append(all, e.Account, e.Mem, e.Cost, e.Reserved, e.Keep)
	case event.Host:
		return append(all, e.Size)
	}
	return all
}

// bytesOf is events as bytes.
func bytesOf(list ...event.Event) []byte {
	var b []byte
	for _, e := range list {
		b = append(b, raw(numbers(e)...)...)
	}
	return b
}

// agree sees that all four functions tell of bytes what the model tells.
func agree(t *testing.T, b []byte) ([]audit.Step, int, api.Errno) {
	t.Helper()
	was := slices.Clone(b)
	list, at, err := events(b)
	m, want := modelOf(list)
	c, steps, n, e := play.Bytes(b)
	if n != at || e != err {
		t.Fatalf("%v: it stopped at %d, %q, want %d, %q", b, n, e.Word(), at, err.Word())
	}
	sameSteps(t, "Bytes", steps, want)
	sameWorld(t, "behind Bytes", c, m)
	sameLines(t, "Lines", play.Lines(steps), linesOf(want))
	sameLines(t, "Run", play.Run(b), runOf(b))
	c, steps = play.Events(list)
	sameSteps(t, "Events", steps, want)
	sameWorld(t, "behind Events", c, m)
	if !slices.Equal(b, was) {
		t.Fatalf("the bytes are %v, were %v", b, was)
	}
	if i := audit.First(steps); i >= 0 {
		t.Fatalf("step %d may not be:\n%s", i, told(steps[:i+1]))
	}
	return steps, n, e
}
