package core_test

import (
	"fmt"
	"strconv"
	"strings"
	"testing"

	"greenhouse/api"
	"greenhouse/box"
	"greenhouse/core"
	"greenhouse/event"
	"greenhouse/policy"
	"greenhouse/reply"
)

// world is what a core can, so that the model can be asked likewise.
type world interface {
	Do(e event.Event) (reply.Answer, []reply.Command)
	Now() int64
	Boxes() []box.Box
	Ends(id int) (int64, bool)
	Boots(f int) (int64, bool)
	Window(f int) (policy.Window, bool)
	Busy(f int) int
	Tokens(a int) (int, bool)
	Free(h int) int
	Answered(k reply.Kind) int64
}

// worlds are a core and the model, each without anything.
func worlds() map[string]world {
	return map[string]world{"core": core.New(), "model": newModel()}
}

// kinds are the words of events, in their order.
var kinds = []string{"tick", "account", "func", "host", "drain", "fail", "call", "booted", "broke", "done"}

// answers are the words of answers' kinds, in their order.
var answers = []string{"taken", "refused", "warm", "cold", "throttled"}

// states are the words of sandboxes' states, in their order.
var states = []string{"booting", "warm", "busy", "dead"}

// parse is the event of a line.
func parse(line string) (event.Event, bool) {
	words := strings.Fields(line)
	n := make([]int, 7)
	for i, w := range words[1:] {
		n[i], _ = strconv.Atoi(w)
	}
	for k, word := range kinds {
		if word != words[0] {
			continue
		}
		e := event.Event{Kind: event.Kind(k), N: n[0]}
		switch e.Kind {
		case event.Account:
			e.Limit, e.Size, e.Refill = n[1], n[2], n[3]
		case event.Func:
			e.Account, e.Mem, e.Cost, e.Reserved, e.Keep = n[1], n[2], n[3], n[4], n[5]
		case event.Host:
			e.Size = n[1]
		}
		return e, true
	}
	return event.Event{}, false
}

// told is what Do told, as words: each command, and then the answer.
func told(a reply.Answer, list []reply.Command) string {
	var words []string
	for _, c := range list {
		words = append(words, c.String())
	}
	return strings.Join(append(words, a.String()), ", ")
}

// perhaps is a number, if there is one.
func perhaps[T any](n T, ok bool) string {
	if !ok {
		return "none"
	}
	return fmt.Sprint(n)
}

// line is a sandbox as words, with its end.
func line(w world, b box.Box) string {
	s := fmt.Sprint(b.ID, " ", b.Func, " ", b.Host, " ", states[b.State])
	if b.Bound {
		s += " bound"
	}
	if b.Pinned {
		s += " pinned"
	}
	if end, ok := w.Ends(b.ID); ok {
		s += fmt.Sprint(" until ", end)
	}
	return s
}

// lines is all sandboxes as words.
func lines(w world) string {
	var list []string
	for _, b := range w.Boxes() {
		list = append(list, line(w, b))
	}
	return strings.Join(list, "; ")
}

// window is a function's window as words.
func window(w world, f int) string {
	x, ok := w.Window(f)
	if !ok {
		return "none"
	}
	return fmt.Sprint([]string{"fixed", "hist", "cast"}[x.How], " ", x.Pre, " ", x.End)
}

// all are the greatest numbers of whatever there may be, and some beyond.
var all = [3]int{api.MaxFuncs + 1, api.MaxAccounts + 1, api.MaxHosts + 1}

// see is all that is to be seen but Answered, of functions, accounts and hosts up to those numbers.
func see(w world, upTo [3]int) string {
	var s strings.Builder
	fmt.Fprintf(&s, "now %d\n", w.Now())
	last := 0
	for _, b := range w.Boxes() {
		fmt.Fprintf(&s, "box %s, mem %d, since %d\n", line(w, b), b.Mem, b.Since)
		// What is in no list has no end.
		for id := last + 1; id < b.ID; id++ {
			if end, ok := w.Ends(id); ok {
				fmt.Fprintf(&s, "box %d ends at %d\n", id, end)
			}
		}
		last = b.ID
	}
	for f := -1; f <= upTo[0]; f++ {
		boot, ok := w.Boots(f)
		if x := window(w, f); x != "none" || ok || w.Busy(f) != 0 {
			fmt.Fprintf(&s, "func %d: %s, boots %s, busy %d\n", f, x, perhaps(boot, ok), w.Busy(f))
		}
	}
	for a := -1; a <= upTo[1]; a++ {
		if n, ok := w.Tokens(a); ok || n != 0 {
			fmt.Fprintf(&s, "account %d: %d\n", a, n)
		}
	}
	for h := -1; h <= upTo[2]; h++ {
		if n := w.Free(h); n != 0 {
			fmt.Fprintf(&s, "host %d: %d\n", h, n)
		}
	}
	return s.String()
}

// counts is how many events were answered by each kind, and by what is none.
func counts(w world) [7]int64 {
	var list [7]int64
	for i := range list {
		list[i] = w.Answered(reply.Kind(i - 1))
	}
	return list
}

// do lets an event happen, and sees what holds of each: that its answer is Right, and is counted, and that what doesn't happen turns nothing and commands nothing.
func do(t *testing.T, w world, e event.Event, upTo [3]int) string {
	t.Helper()
	was, want := see(w, upTo), counts(w)
	a, list := w.Do(e)
	if !a.Right() {
		t.Fatalf("%+v: %+v isn't Right", e, a)
	}
	if e.Right() {
		want[a.Kind+1]++
	}
	if got := counts(w); got != want {
		t.Fatalf("%+v: %s: answered %v, want %v", e, a, got, want)
	}
	if is := see(w, upTo); (a.Kind == reply.Refused || a.Kind == reply.Throttled) && (is != was || len(list) > 0) {
		t.Fatalf("%+v: %s: commands %v, and turns\n%sto\n%s", e, a, list, was, is)
	}
	return told(a, list)
}

// ticks lets time go by: all that is commanded meanwhile.
func ticks(t *testing.T, w world, n int64) string {
	t.Helper()
	var all []string
	for range n {
		a, list := w.Do(event.Event{})
		if a != (reply.Answer{}) {
			t.Fatalf("a tick is %s", a)
		}
		for _, c := range list {
			all = append(all, c.String())
		}
	}
	return strings.Join(append(all, "ok"), ", ")
}

// learn lets a function be called n times and once more, so long behind the end of the call before; what boots has booted at once.
func learn(t *testing.T, w world, f, idle, n int) {
	t.Helper()
	for i := range n + 1 {
		if i > 0 {
			for range idle {
				_, list := w.Do(event.Event{})
				for _, c := range list {
					if c.Boot {
						w.Do(event.Event{Kind: event.Booted, N: c.Box})
					}
				}
			}
		}
		a, _ := w.Do(event.Event{Kind: event.Call, N: f})
		switch a.Kind {
		case reply.Cold:
			w.Do(event.Event{Kind: event.Booted, N: a.Box})
		case reply.Warm:
		default:
			t.Fatalf("learn: a call of %d is %s", f, a)
		}
		w.Do(event.Event{Kind: event.Done, N: a.Box})
	}
}

// ask is what a line of a script tells: an event, some ticks, or a question.
func ask(t *testing.T, w world, text string) string {
	t.Helper()
	if e, ok := parse(text); ok {
		return do(t, w, e, all)
	}
	words := strings.Fields(text)
	n := make([]int, 3)
	for i, x := range words[1:] {
		n[i], _ = strconv.Atoi(x)
	}
	switch words[0] {
	case "ticks":
		return ticks(t, w, int64(n[0]))
	case "till":
		return ticks(t, w, int64(n[0])-w.Now())
	case "learn":
		learn(t, w, n[0], n[1], n[2])
		return "ok"
	case "now":
		return fmt.Sprint(w.Now())
	case "boxes":
		return lines(w)
	case "box":
		for _, b := range w.Boxes() {
			if b.ID == n[0] {
				return fmt.Sprint("mem ", b.Mem, " since ", b.Since)
			}
		}
		return "none"
	case "ends":
		return perhaps(w.Ends(n[0]))
	case "boots":
		return perhaps(w.Boots(n[0]))
	case "window":
		return window(w, n[0])
	case "busy":
		return fmt.Sprint(w.Busy(n[0]))
	case "tokens":
		return perhaps(w.Tokens(n[0]))
	case "free":
		return fmt.Sprint(w.Free(n[0]))
	case "answered":
		for k, word := range answers {
			if word == words[1] {
				return fmt.Sprint(w.Answered(reply.Kind(k)))
			}
		}
	}
	t.Fatalf("%q is no line of a script", text)
	return ""
}

// play does a script to a world: lines, and behind > what each tells (else ok). A line with # is words for whoever reads it.
func play(t *testing.T, w world, text string) {
	t.Helper()
	for i, l := range strings.Split(text, "\n") {
		l = strings.TrimSpace(l)
		if l == "" || l[0] == '#' {
			continue
		}
		asked, want, is := strings.Cut(l, ">")
		if want = strings.TrimSpace(want); !is {
			want = "ok"
		}
		if got := ask(t, w, strings.TrimSpace(asked)); got != want {
			t.Errorf("line %d: %s tells %q, want %q", i, asked, got, want)
		}
	}
}

// script does a script to a core, and to the model, so that the model is held against the same words.
func script(t *testing.T, text string) {
	t.Helper()
	for name, w := range worlds() {
		t.Run(name, func(t *testing.T) {
			t.Helper()
			play(t, w, text)
		})
	}
}
