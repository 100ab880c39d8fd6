package core_test

import (
	"testing"

	"greenhouse/api"
	"greenhouse/event"
	"greenhouse/reply"
)

// P18.2: room

func TestRoomByFit(t *testing.T) {
	script(t, `
		account 0 99 99 0
		func 0 0 3 1 0 0
		func 1 0 1 1 0 0
		host 0 5
		host 1 3
		host 2 4
		host 3 3
		call 0 > boot 1 0 1, cold 1
		call 0 > boot 2 0 3, cold 2
		call 0 > boot 3 0 2, cold 3
		call 1 > boot 4 1 2, cold 4
		call 0 > boot 5 0 0, cold 5
		call 0 > throttled room
		call 1 > boot 6 1 0, cold 6
	`)
	// Fit comes first, even where a host with a lesser number has enough that could go.
	script(t, `
		account 0 99 99 0
		func 0 0 3 1 0 0
		func 1 0 3 1 0 0
		host 0 3
		call 0 > boot 1 0 0, cold 1
		booted 1
		done 1
		host 1 9
		call 1 > boot 2 1 1, cold 2
		boxes > 1 0 0 warm until 10; 2 1 1 booting bound
	`)
	// The last host that there may be.
	script(t, `
		account 0 99 99 0
		func 0 0 3 1 0 0
		func 1 0 3 1 0 0
		host 31 3
		call 0 > boot 1 0 31, cold 1
		call 1 > throttled room
		booted 1
		done 1
		call 1 > kill 1 0 31, boot 2 1 31, cold 2
	`)
}

func TestRoomByWhatMayGo(t *testing.T) {
	// Host 0 is full of what runs, 1 has too little that may go, 2 and 3 enough: on 2 goes what is worth least, and no more than needs to.
	const hosts = `
		account 0 99 99 0
		func 0 0 2 1 0 0
		func 1 0 1 4 0 0
		func 2 0 3 1 0 0
		func 3 0 4 1 0 0
		func 4 0 5 1 0 0
		func 5 0 6 1 0 0
		host 0 2
		call 0 > boot 1 0 0, cold 1
		host 1 3
		call 0 > boot 2 0 1, cold 2
		call 1 > boot 3 1 1, cold 3
		booted 2
		host 2 5
		call 0 > boot 4 0 2, cold 4
		call 1 > boot 5 1 2, cold 5
		call 1 > boot 6 1 2, cold 6
		host 3 7
		call 2 > boot 7 2 3, cold 7
		call 2 > boot 8 2 3, cold 8
		booted 4
		booted 5
		booted 6
		booted 7
		booted 8
		done 2
		done 4
		done 5
		done 6
		done 7
		done 8
		free 1 > 0
		free 2 > 1
		free 3 > 1
		boxes > 1 0 0 booting bound; 2 0 1 warm until 10; 3 1 1 booting bound; 4 0 2 warm until 10; 5 1 2 warm until 10; 6 1 2 warm until 10; 7 2 3 warm until 10; 8 2 3 warm until 10
	`
	script(t, hosts+`
		# 4: host 2 is the first that has as much, and no more goes than needs to
		call 3 > kill 4 0 2, kill 5 1 2, boot 9 3 2, cold 9
		boxes > 1 0 0 booting bound; 2 0 1 warm until 10; 3 1 1 booting bound; 6 1 2 warm until 10; 7 2 3 warm until 10; 8 2 3 warm until 10; 9 3 2 booting bound
		ends 4 > none
		ends 5 > none
		free 2 > 0
	`)
	script(t, hosts+`
		# just enough: all that is free and may go
		call 4 > kill 4 0 2, kill 5 1 2, kill 6 1 2, boot 9 4 2, cold 9
	`)
	script(t, hosts+`
		# host 3 alone has enough
		call 5 > kill 7 2 3, kill 8 2 3, boot 9 5 3, cold 9
		free 3 > 1
	`)
	script(t, hosts+`
		# none has: nothing goes
		func 6 0 8 1 0 0
		call 6 > throttled room
		func 6 0 8 1 0 5
	`)
	script(t, hosts+`
		# nor does what runs
		call 0 > warm 2
		call 0 > warm 4
		call 1 > warm 5
		call 1 > warm 6
		call 3 > kill 7 2 3, boot 9 3 3, cold 9
		call 3 > throttled room
		call 4 > throttled room
	`)
	script(t, hosts+`
		# nor what is kept, nor what was killed
		func 0 0 2 1 0 2
		func 1 0 1 4 0 2
		boxes > 1 0 0 booting bound; 2 0 1 warm pinned; 3 1 1 booting bound; 4 0 2 warm pinned; 5 1 2 warm pinned; 6 1 2 warm pinned; 7 2 3 warm until 10; 8 2 3 warm until 10
		broke 7
		call 4 > kill 8 2 3, boot 9 4 3, cold 9
		call 4 > throttled room
	`)
	script(t, hosts+`
		# nor what is on a host that drains: nothing may go there
		drain 2 > kill 4 0 2, kill 5 1 2, kill 6 1 2, ok
		call 3 > kill 7 2 3, boot 9 3 3, cold 9
		call 3 > throttled room
	`)
}

// What goes is what is worth least: calls times cost by memory, and of the same the least number.
func TestWorth(t *testing.T) {
	// 1 is worth 6 by 4, 2 and 3 are worth 2, 4 is worth 3 times 1 by 2.
	script(t, `
		account 0 99 99 0
		func 0 0 4 6 0 0
		func 1 0 1 2 0 0
		func 2 0 2 4 0 0
		func 3 0 2 1 0 0
		func 4 0 1 1 0 0
		func 9 0 9 1 0 0
		host 0 9
		call 0 > boot 1 0 0, cold 1
		call 2 > boot 2 2 0, cold 2
		call 1 > boot 3 1 0, cold 3
		call 3 > boot 4 3 0, cold 4
		booted 4
		done 4
		call 3 > warm 4
		done 4
		call 3 > warm 4
		booted 1
		booted 2
		booted 3
		done 3
		done 2
		done 1
		done 4
		call 9 > kill 1 0 0, kill 4 3 0, kill 2 2 0, kill 3 1 0, boot 5 9 0, cold 5
	`)
	// Of the same least worth the least number goes, whichever came into the cache first.
	script(t, `
		account 0 99 99 0
		func 0 0 1 1 0 0
		func 1 0 1 1 0 0
		func 2 0 1 1 0 0
		func 3 0 2 2 0 0
		func 9 0 4 1 0 0
		host 0 5
		call 0 > boot 1 0 0, cold 1
		call 1 > boot 2 1 0, cold 2
		call 3 > boot 3 3 0, cold 3
		call 2 > boot 4 2 0, cold 4
		booted 1
		booted 2
		booted 3
		booted 4
		done 4
		done 3
		done 2
		done 1
		call 9 > kill 1 0 0, kill 2 1 0, kill 3 3 0, boot 5 9 0, cold 5
	`)
	// What was called again is worth more from then on; it is out of the cache meanwhile.
	script(t, `
		account 0 99 99 0
		func 0 0 1 1 0 0
		func 1 0 1 2 0 0
		func 9 0 1 1 0 0
		host 0 2
		call 0 > boot 1 0 0, cold 1
		call 1 > boot 2 1 0, cold 2
		booted 1
		booted 2
		done 1
		done 2
		call 0 > warm 1
		done 1
		call 0 > warm 1
		done 1
		call 9 > kill 2 1 0, boot 3 9 0, cold 3
	`)
	// A sandbox that isn't called stays worth what it was, while another one of its function is.
	script(t, `
		account 0 99 99 0
		func 0 0 1 2 0 0
		func 1 0 1 5 0 0
		func 9 0 1 1 0 0
		host 0 3
		call 0 > boot 1 0 0, cold 1
		call 0 > boot 2 0 0, cold 2
		call 1 > boot 3 1 0, cold 3
		booted 1
		booted 2
		booted 3
		done 1
		done 3
		tick
		done 2
		call 0 > warm 2
		done 2
		call 9 > kill 1 0 0, boot 4 9 0, cold 4
		call 9 > kill 3 1 0, boot 5 9 0, cold 5
	`)
}

// Each host has a cache, and a Clock, of its own.
func TestClocks(t *testing.T) {
	script(t, `
		account 0 99 99 0
		func 0 0 1 100 0 0
		func 1 0 1 12 0 0
		func 2 0 1 3 0 0
		func 3 0 1 1 0 0
		func 4 0 1 1 0 0
		host 0 1
		call 0 > boot 1 0 0, cold 1
		booted 1
		done 1
		call 3 > kill 1 0 0, boot 2 3 0, cold 2
		host 1 2
		call 1 > boot 3 1 1, cold 3
		call 2 > boot 4 2 1, cold 4
		booted 3
		booted 4
		done 3
		done 4
		call 4 > kill 4 2 1, boot 5 4 1, cold 5
	`)
}

// At most MaxFreq calls count.
func TestMaxFreq(t *testing.T) {
	for name, w := range worlds() {
		play(t, w, `
			account 0 99 99 0
			func 0 0 1 1 0 0
			func 1 0 1 1 0 0
			func 2 0 1 1 0 0
			func 9 0 1 1 0 0
			host 0 3
			call 0 > boot 1 0 0, cold 1
			call 1 > boot 2 1 0, cold 2
			call 2 > boot 3 2 0, cold 3
			booted 1
			booted 2
			booted 3
			done 1
			done 2
			done 3
		`)
		// 1 is called MaxFreq times and once more, 2 and 3 MaxFreq times less one.
		for f, n := range []int{api.MaxFreq, api.MaxFreq - 2, api.MaxFreq - 2} {
			for range n {
				if a, _ := w.Do(event.Event{Kind: event.Call, N: f}); a.Kind != reply.Warm {
					t.Fatalf("%s: %s", name, a)
				}
				w.Do(event.Event{Kind: event.Done, N: f + 1})
			}
		}
		// And 3 once more: it is worth what 1 is, and the least number goes.
		play(t, w, `
			call 2 > warm 3
			done 3
			call 9 > kill 2 1 0, boot 4 9 0, cold 4
			call 9 > kill 1 0 0, boot 5 9 0, cold 5
			call 9 > kill 3 2 0, boot 6 9 0, cold 6
		`)
	}
}

// P18.2: to keep

// The warm one with the least number is pinned first, then the booting ones, then the busy ones; then more boot.
func TestKeepMore(t *testing.T) {
	const six = `
		account 0 99 99 0
		func 0 0 1 1 0 0
		host 0 9
		call 0 > boot 1 0 0, cold 1
		call 0 > boot 2 0 0, cold 2
		call 0 > boot 3 0 0, cold 3
		call 0 > boot 4 0 0, cold 4
		call 0 > boot 5 0 0, cold 5
		call 0 > boot 6 0 0, cold 6
		booted 1
		booted 2
		booted 3
		booted 4
		done 4
		tick
		done 2
	`
	script(t, six+`
		func 0 0 1 1 0 1
		boxes > 1 0 0 busy; 2 0 0 warm pinned; 3 0 0 busy; 4 0 0 warm until 10; 5 0 0 booting bound; 6 0 0 booting bound
		func 0 0 1 1 0 2
		boxes > 1 0 0 busy; 2 0 0 warm pinned; 3 0 0 busy; 4 0 0 warm pinned; 5 0 0 booting bound; 6 0 0 booting bound
		func 0 0 1 1 0 3
		boxes > 1 0 0 busy; 2 0 0 warm pinned; 3 0 0 busy; 4 0 0 warm pinned; 5 0 0 booting bound pinned; 6 0 0 booting bound
		func 0 0 1 1 0 4
		boxes > 1 0 0 busy; 2 0 0 warm pinned; 3 0 0 busy; 4 0 0 warm pinned; 5 0 0 booting bound pinned; 6 0 0 booting bound pinned
		func 0 0 1 1 0 5
		boxes > 1 0 0 busy pinned; 2 0 0 warm pinned; 3 0 0 busy; 4 0 0 warm pinned; 5 0 0 booting bound pinned; 6 0 0 booting bound pinned
		func 0 0 1 1 0 6
		boxes > 1 0 0 busy pinned; 2 0 0 warm pinned; 3 0 0 busy pinned; 4 0 0 warm pinned; 5 0 0 booting bound pinned; 6 0 0 booting bound pinned
		func 0 0 1 1 0 8 > boot 7 0 0, boot 8 0 0, ok
		boxes > 1 0 0 busy pinned; 2 0 0 warm pinned; 3 0 0 busy pinned; 4 0 0 warm pinned; 5 0 0 booting bound pinned; 6 0 0 booting bound pinned; 7 0 0 booting pinned; 8 0 0 booting pinned
		ticks 50
	`)
	// All at once.
	script(t, six+`
		func 0 0 1 1 0 3
		boxes > 1 0 0 busy; 2 0 0 warm pinned; 3 0 0 busy; 4 0 0 warm pinned; 5 0 0 booting bound pinned; 6 0 0 booting bound
	`)
	script(t, six+`
		func 0 0 1 1 0 7 > boot 7 0 0, ok
		boxes > 1 0 0 busy pinned; 2 0 0 warm pinned; 3 0 0 busy pinned; 4 0 0 warm pinned; 5 0 0 booting bound pinned; 6 0 0 booting bound pinned; 7 0 0 booting pinned
	`)
	// Those on a host that drains aren't pinned, and stay where they are.
	script(t, six+`
		host 1 2
		drain 0 > kill 2 0 0, kill 4 0 0, ok
		func 0 0 1 1 0 1 > boot 7 0 1, ok
		boxes > 1 0 0 busy; 3 0 0 busy; 5 0 0 booting bound; 6 0 0 booting bound; 7 0 1 booting pinned
		func 0 0 1 1 0 3 > boot 8 0 1, ok
		boxes > 1 0 0 busy; 3 0 0 busy; 5 0 0 booting bound; 6 0 0 booting bound; 7 0 1 booting pinned; 8 0 1 booting pinned
	`)
	// Another function's are its own.
	script(t, six+`
		func 1 0 1 1 0 2 > boot 7 1 0, boot 8 1 0, ok
		boxes > 1 0 0 busy; 2 0 0 warm until 11; 3 0 0 busy; 4 0 0 warm until 10; 5 0 0 booting bound; 6 0 0 booting bound; 7 1 0 booting pinned; 8 1 0 booting pinned
	`)
	// One that boots for no call, too, ahead of one with a greater number that does.
	script(t, `
		account 0 99 99 0
		func 0 0 1 1 0 1
		host 0 9 > boot 1 0 0, ok
		func 0 0 1 1 0 0
		call 0 > boot 2 0 0, cold 2
		func 0 0 1 1 0 1
		boxes > 1 0 0 booting pinned; 2 0 0 booting bound
	`)
}

// What is pinned has no end, and doesn't go for room.
func TestPinned(t *testing.T) {
	script(t, `
		account 0 99 99 0
		func 0 0 1 1 0 0
		func 1 0 1 1 0 0
		host 0 1
		call 0 > boot 1 0 0, cold 1
		booted 1
		done 1
		ends 1 > 10
		func 0 0 1 1 0 1
		ends 1 > none
		call 1 > throttled room
		ticks 50
		call 0 > warm 1
		done 1
		ends 1 > none
		call 1 > throttled room
		ticks 50
		boxes > 1 0 0 warm pinned
	`)
}

// The one with the greatest number isn't pinned any more; if it is idle, it is there till the window's End.
func TestKeepFewer(t *testing.T) {
	const six = `
		account 0 99 99 0
		func 0 0 1 1 0 6
		func 1 0 1 1 0 0
		func 2 0 2 1 0 0
		host 0 6 > boot 1 0 0, boot 2 0 0, boot 3 0 0, boot 4 0 0, boot 5 0 0, boot 6 0 0, ok
		booted 1
		booted 2
		booted 3
		booted 5
		call 0 > warm 1
		call 0 > warm 2
		ticks 3
		boxes > 1 0 0 busy pinned; 2 0 0 busy pinned; 3 0 0 warm pinned; 4 0 0 booting pinned; 5 0 0 warm pinned; 6 0 0 booting pinned
	`
	script(t, six+`
		func 0 0 1 1 0 5
		boxes > 1 0 0 busy pinned; 2 0 0 busy pinned; 3 0 0 warm pinned; 4 0 0 booting pinned; 5 0 0 warm pinned; 6 0 0 booting
		func 0 0 1 1 0 4
		boxes > 1 0 0 busy pinned; 2 0 0 busy pinned; 3 0 0 warm pinned; 4 0 0 booting pinned; 5 0 0 warm until 13; 6 0 0 booting
		func 0 0 1 1 0 1
		boxes > 1 0 0 busy pinned; 2 0 0 busy; 3 0 0 warm until 13; 4 0 0 booting; 5 0 0 warm until 13; 6 0 0 booting
		tick
		booted 4
		done 2
		done 1
		boxes > 1 0 0 warm pinned; 2 0 0 warm until 14; 3 0 0 warm until 13; 4 0 0 warm until 14; 5 0 0 warm until 13; 6 0 0 booting
		func 0 0 1 1 0 0
		boxes > 1 0 0 warm until 14; 2 0 0 warm until 14; 3 0 0 warm until 13; 4 0 0 warm until 14; 5 0 0 warm until 13; 6 0 0 booting
		till 13 > kill 3 0 0, kill 5 0 0, ok
		till 14 > kill 1 0 0, kill 2 0 0, kill 4 0 0, ok
		till 50
		boxes > 6 0 0 booting
	`)
	// All at once, and back again.
	script(t, six+`
		func 0 0 1 1 0 0
		boxes > 1 0 0 busy; 2 0 0 busy; 3 0 0 warm until 13; 4 0 0 booting; 5 0 0 warm until 13; 6 0 0 booting
		func 0 0 1 1 0 4
		boxes > 1 0 0 busy; 2 0 0 busy; 3 0 0 warm pinned; 4 0 0 booting pinned; 5 0 0 warm pinned; 6 0 0 booting pinned
		func 0 0 1 1 0 2
		boxes > 1 0 0 busy; 2 0 0 busy; 3 0 0 warm pinned; 4 0 0 booting pinned; 5 0 0 warm until 13; 6 0 0 booting
		func 0 0 1 1 0 2
		boxes > 1 0 0 busy; 2 0 0 busy; 3 0 0 warm pinned; 4 0 0 booting pinned; 5 0 0 warm until 13; 6 0 0 booting
	`)
	// It may go for room then, by what it is worth: both are worth the same, two calls.
	script(t, six+`
		call 1 > throttled room
		func 0 0 1 1 0 2
		call 1 > kill 3 0 0, boot 7 1 0, cold 7
		call 1 > kill 5 0 0, boot 8 1 0, cold 8
		call 1 > throttled room
	`)
	// Of a window with a Pre: it is there from now till the End, and nothing boots ahead.
	script(t, `
		account 0 99 99 0
		func 0 0 1 1 0 1
		host 0 6 > boot 1 0 0, ok
		booted 1
		learn 0 20 4
		window 0 > hist 18 24
		boots 0 > none
		ticks 5
		func 0 0 1 1 0 0
		boxes > 1 0 0 warm until 109
		boots 0 > none
		till 108
		tick > kill 1 0 0, ok
	`)
}

// What is to be kept and has no room comes as soon as functions are kept again, and there is some.
func TestNoRoomToKeepAll(t *testing.T) {
	script(t, `
		account 0 99 99 0
		func 1 0 2 1 0 0
		func 2 0 1 1 0 0
		func 3 0 3 1 0 0
		host 0 5
		call 3 > boot 1 3 0, cold 1
		booted 1
		func 1 0 2 1 0 3 > boot 2 1 0, ok
		func 2 0 1 1 0 1
		free 0 > 0
		tick
		# nothing is kept behind an Account, a Booted, a Call, or a Done
		done 1
		boxes > 1 3 0 warm until 11; 2 1 0 booting pinned
		account 0 99 99 0
		booted 2
		call 9 > refused none
		boxes > 1 3 0 warm until 11; 2 1 0 warm pinned
		# a tick: what is idle goes for it, one after the other
		tick > kill 1 3 0, boot 3 1 0, boot 4 2 0, ok
		boxes > 2 1 0 warm pinned; 3 1 0 booting pinned; 4 2 0 booting pinned
		tick
		# the rest behind a host
		host 1 1
		host 2 4 > boot 5 1 2, ok
		free 2 > 2
	`)
}

// What a call boots is pinned neither by that, nor behind Booted, Done or an Account, nor by what befalls other functions, but as soon as its function is kept again.
func TestKeptAgain(t *testing.T) {
	const called = `
		account 0 99 99 0
		func 0 0 1 1 0 0
		func 1 0 1 1 0 0
		func 2 0 1 1 0 0
		host 5 1
		call 2 > boot 1 2 5, cold 1
		host 0 1
		call 1 > boot 2 1 0, cold 2
		func 0 0 1 1 0 1
		broke 2
		call 0 > boot 3 0 0, cold 3
		boxes > 1 2 5 booting bound; 3 0 0 booting bound
		booted 3
		boxes > 1 2 5 booting bound; 3 0 0 busy
		done 3
		boxes > 1 2 5 booting bound; 3 0 0 warm until 10
		call 0 > warm 3
		booted 1
		done 3
		func 1 0 1 2 0 0
		account 0 99 99 0
		host 0 1 > refused state
		drain 9 > refused none
		fail 9 > refused none
		boxes > 1 2 5 busy; 3 0 0 warm until 10
	`
	for _, keeps := range []string{"tick", "func 0 0 1 1 0 1", "host 1 9", "drain 5", "fail 5"} {
		script(t, called+keeps+`
			ends 3 > none
			ticks 20
			boots 0 > none
		`)
	}
	script(t, called+`
		broke 1
		ends 3 > 10
		tick
		ends 3 > none
		boxes > 3 0 0 warm pinned
	`)
	script(t, called+`
		broke 3 > boot 4 0 0, ok
		boxes > 1 2 5 busy; 4 0 0 booting pinned
	`)
	script(t, called+`
		func 1 0 1 1 0 1 > kill 3 0 0, boot 4 1 0, ok
		tick
	`)
}

// Functions are kept by rising numbers: a lesser one's room is what a greater one's idle sandbox had.
func TestKeptByNumbers(t *testing.T) {
	script(t, `
		account 0 99 99 0
		func 0 0 2 1 0 0
		func 1 0 2 1 0 0
		host 0 2
		call 1 > boot 1 1 0, cold 1
		booted 1
		func 0 0 2 1 0 1
		done 1
		ends 1 > 10
		tick > kill 1 1 0, boot 2 0 0, ok
	`)
}
