package play_test

import (
	"slices"
	"strconv"
	"strings"
	"testing"

	"greenhouse/audit"
	"greenhouse/event"
	"greenhouse/play"
)

// kinds are the words of events, in their order.
var kinds = []string{"tick", "account", "func", "host", "drain", "fail", "call", "booted", "broke", "done"}

// eventOf is the event of words: its Kind and its numbers, in the order of its bytes.
func eventOf(t *testing.T, line string) event.Event {
	t.Helper()
	words := strings.Fields(line)
	k := slices.Index(kinds, words[0])
	if k < 0 || len(words) != 1+howMany[k] {
		t.Fatalf("%q is no event", line)
	}
	var n [6]int
	for i, w := range words[1:] {
		n[i], _ = strconv.Atoi(w)
	}
	e := event.Event{Kind: event.Kind(k), N: n[0]}
	switch e.Kind {
	case event.Account:
		e.Limit, e.Size, e.Refill = n[1], n[2], n[3]
	case event.Func:
		e.Account, e.Mem, e.Cost, e.Reserved, e.Keep = n[1], n[2], n[3], n[4], n[5]
	case event.Host:
		e.Size = n[1]
	}
	return e
}

// scriptOf is the events of a text, line by line, and of each the lines that it tells: behind >, parted by commas; ok, where there is no >. With x and a number behind the event it comes so often, and tells the same each time. A line with # is for whoever reads it.
func scriptOf(t *testing.T, text string) ([]event.Event, [][]string) {
	t.Helper()
	var list []event.Event
	var tells [][]string
	for _, l := range strings.Split(text, "\n") {
		l = strings.TrimSpace(l)
		if l == "" || l[0] == '#' {
			continue
		}
		words, tell, is := strings.Cut(l, ">")
		if !is {
			tell = "ok"
		}
		words, often, is := strings.Cut(words, " x")
		times := 1
		if is {
			times, _ = strconv.Atoi(strings.TrimSpace(often))
		}
		for range times {
			list = append(list, eventOf(t, words))
			tells = append(tells, strings.Split(strings.TrimSpace(tell), ", "))
		}
	}
	return list, tells
}

// eventsOf is a script's events alone.
func eventsOf(t *testing.T, text string) []event.Event {
	t.Helper()
	list, _ := scriptOf(t, text)
	return list
}

// script sees that a script tells its lines: in play, step by step and as a whole, and in the model.
func script(t *testing.T, text string) ([]event.Event, []audit.Step) {
	t.Helper()
	list, tells := scriptOf(t, text)
	b := bytesOf(list...)
	steps, _, _ := agree(t, b)
	var lines []string
	for i, s := range steps {
		if got := play.Lines([]audit.Step{s}); !slices.Equal(got, tells[i]) || s.Event != list[i] {
			t.Fatalf("event %d, %+v: %q, want %q, of %+v", i, s.Event, got, tells[i], list[i])
		}
		lines = append(lines, tells[i]...)
	}
	sameLines(t, "Run", play.Run(b), lines)
	sameLines(t, "Lines", play.Lines(steps), lines)
	return list, steps
}
