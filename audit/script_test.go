package audit_test

import (
	"fmt"
	"math"
	"strconv"
	"strings"
	"testing"

	"greenhouse/api"
	"greenhouse/audit"
	"greenhouse/event"
	"greenhouse/reply"
)

// firsts are First and the model's, so that the model is held against the same words.
var firsts = map[string]func([]audit.Step) int{"audit": audit.First, "model": first}

// kinds are the words of events, in their order.
var kinds = []string{"tick", "account", "func", "host", "drain", "fail", "call", "booted", "broke", "done"}

// numbers is words as numbers; most is the greatest of an event's, max and min any number's.
func numbers(t *testing.T, words []string) []int {
	t.Helper()
	list := make([]int, 7)
	for i, w := range words {
		switch w {
		case "most":
			list[i] = event.Most
		case "max":
			list[i] = math.MaxInt
		case "min":
			list[i] = math.MinInt
		default:
			n, err := strconv.Atoi(w)
			if err != nil {
				t.Fatalf("%q is no number", w)
			}
			list[i] = n
		}
	}
	return list
}

// eventOf is the event of words: of func the number and the Mem, of host the number and the Size, of all others the number.
func eventOf(t *testing.T, text string) event.Event {
	t.Helper()
	words := strings.Fields(text)
	n := numbers(t, words[1:])
	for k, word := range kinds {
		if word != words[0] {
			continue
		}
		e := event.Event{Kind: event.Kind(k), N: n[0]}
		switch e.Kind {
		case event.Func:
			e.Mem = n[1]
		case event.Host:
			e.Size = n[1]
		}
		return e
	}
	t.Fatalf("%q is no event", text)
	return event.Event{}
}

// commandOf is the command of words; false: they aren't one's.
func commandOf(t *testing.T, text string) (reply.Command, bool) {
	t.Helper()
	words := strings.Fields(text)
	if len(words) != 4 || words[0] != "boot" && words[0] != "kill" {
		return reply.Command{}, false
	}
	n := numbers(t, words[1:])
	return reply.Command{Boot: words[0] == "boot", Box: n[0], Func: n[1], Host: n[2]}, true
}

// stepOf is the step of a line: an event, and behind > commands and the answer; what isn't there is ok.
func stepOf(t *testing.T, line string) audit.Step {
	t.Helper()
	asked, told, _ := strings.Cut(line, ">")
	s := audit.Step{Event: eventOf(t, asked)}
	for _, part := range strings.Split(told, ",") {
		if part = strings.TrimSpace(part); part == "" {
			continue
		}
		if c, ok := commandOf(t, part); ok {
			s.Commands = append(s.Commands, c)
			continue
		}
		a, err := reply.Parse(part)
		if err != api.OK {
			t.Fatalf("%q is no answer", part)
		}
		s.Answer = a
	}
	return s
}

// stepsOf is the steps of lines.
func stepsOf(t *testing.T, text string) []audit.Step {
	t.Helper()
	var list []audit.Step
	for _, l := range strings.Split(text, "\n") {
		if l = strings.TrimSpace(l); l != "" {
			list = append(list, stepOf(t, l))
		}
	}
	return list
}

// is sees which step of a list is the first that may not be.
func is(t *testing.T, list []audit.Step, want int) {
	t.Helper()
	for name, f := range firsts {
		if got := f(list); got != want {
			t.Errorf("%s: %d, want %d, of\n%s", name, got, want, told(list))
		}
	}
}

// told is steps as words.
func told(list []audit.Step) string {
	var s strings.Builder
	for i, x := range list {
		fmt.Fprintf(&s, "%d: %+v > %v, %+v\n", i, x.Event, x.Commands, x.Answer)
	}
	return s.String()
}

// script does lines: each may be behind those ahead, but one that begins with !, which may not be, and behind which the next one goes on as if it weren't there. A line with # is words for whoever reads it.
func script(t *testing.T, text string) {
	t.Helper()
	var list []audit.Step
	for _, l := range strings.Split(text, "\n") {
		l = strings.TrimSpace(l)
		if l == "" || l[0] == '#' {
			continue
		}
		line, wrong := strings.CutPrefix(l, "!")
		more := append(list[:len(list):len(list)], stepOf(t, line))
		want := -1
		if wrong {
			want = len(list)
		} else {
			list = more
		}
		for name, f := range firsts {
			if got := f(more); got != want {
				t.Errorf("%s: %s: %d, want %d", name, l, got, want)
			}
		}
	}
}
