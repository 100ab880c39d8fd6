package play_test

import (
	"fmt"
	"slices"
	"testing"

	"greenhouse/api"
	"greenhouse/audit"
	"greenhouse/event"
	"greenhouse/play"
)

// P20.1, P20.2, P1: whatever script comes, steps and lines are those of the model.
func TestAsTheModel(t *testing.T) {
	r := reached{}
	eachWeather(t, 6, func(t *testing.T, c climate, seed int) {
		b := bytesOf(scriptIn(c, seed, 5, 1200)...)
		steps, _, err := agree(t, b)
		if err != api.OK {
			t.Fatalf("%v is none: %q", b, err.Word())
		}
		r.note(steps)
	})
	if list := r.lacks(5); list != nil {
		t.Errorf("reached too seldom: %q", list)
	}
}

// P20.1, P1: behind each beginning of a script all that is to be seen is as in the model.
func TestEachBeginningAsTheModel(t *testing.T) {
	eachWeather(t, 2, func(t *testing.T, c climate, seed int) {
		list := scriptIn(c, seed+80, 5, 250)
		m := newModel()
		for i, e := range list {
			m.do(e)
			x, _, _, _ := play.Bytes(bytesOf(list[:i+1]...))
			sameWorld(t, fmt.Sprintf("behind event %d, %+v", i, e), x, m)
		}
	})
}

// P1: whatever bytes come: those of scripts of which some are turned, and any.
func TestAnyBytes(t *testing.T) {
	d := dice(3)
	errs := map[api.Errno]int{}
	for _, c := range climates {
		for seed := range 8 {
			b := bytesOf(scriptIn(c, seed+20, 5, 300)...)
			for range d.under(4) {
				b[d.under(len(b))] = byte(d.under(256))
			}
			_, _, err := agree(t, b[:len(b)-d.under(2)])
			errs[err]++
		}
	}
	for range 3000 {
		b := []byte{1, 0, 9, 9, 1, 3, 0, 9, 3, 1, 5, 2, 0, 0, 1, 1, 0, 0, 2, 1, 0, 2, 3, 0, 1}[:d.of(0, 25)]
		most := d.of(2, 7, 10, 11, 12, 13, 129, 256)
		for range d.under(200) {
			b = append(b, byte(d.under(most)))
		}
		_, _, err := agree(t, b)
		errs[err]++
	}
	for _, err := range []api.Errno{api.OK, api.ErrArg, api.ErrForm} {
		if errs[err] < 100 {
			t.Errorf("%q came %d times", err.Word(), errs[err])
		}
	}
}

func FuzzRun(f *testing.F) {
	for i, c := range climates {
		f.Add(bytesOf(scriptIn(c, i, 5, 60)...))
	}
	f.Add(bytesOf(event.Event{Kind: event.Call, N: 5}))
	f.Fuzz(func(t *testing.T, b []byte) { agree(t, b) })
}

// P1, of as many events as there may be.
func TestLongScripts(t *testing.T) {
	for i, c := range climates {
		if !slices.Contains([]string{"steady", "kept", "hosts that go", "late"}, c.name) {
			continue
		}
		steps, at, err := agree(t, bytesOf(scriptIn(c, i, 5, api.MaxEvents)...))
		if len(steps) != api.MaxEvents || err != api.OK {
			t.Errorf("%s: %d steps, %d, %q", c.name, len(steps), at, err.Word())
		}
	}
}

// So many calls that what was counted of idle times is halved: then a few others are enough to turn the window.
func TestManyIdleTimes(t *testing.T) {
	list := eventsOf(t, `
		account 0 2 1000 1000
		func 0 0 1 1 0 0
		host 0 1
		call 0 > boot 1 0 0, cold 1
		booted 1
		done 1
	`)
	m, _ := modelOf(list)
	do := func(e event.Event) audit.Step {
		list = append(list, e)
		return m.do(e)
	}
	called := func(idle int) {
		for range idle {
			do(event.Event{})
		}
		id := do(event.Event{Kind: event.Call}).Answer.Box
		do(event.Event{Kind: event.Booted, N: id})
		do(event.Event{Kind: event.Done, N: id})
	}
	for range api.MaxCount {
		called(0)
	}
	ends := map[int64]int{}
	for len(list) < api.MaxEvents-10 {
		called(3)
		x, _ := m.Window(0)
		ends[x.End]++
	}
	// Of 2048 that are left the 21st other one turns it; of 4096 it would be the 42nd.
	if ends[2] != 20 || ends[5] < 100 {
		t.Errorf("the ends of windows are %v", ends)
	}
	agree(t, bytesOf(list...))
}
