package core_test

import (
	"testing"
)

// P18.3: Booted, Broke, Done

func TestSandboxesThatAreNotThere(t *testing.T) {
	for _, word := range []string{"booted", "broke", "done"} {
		script(t, busy+`
			`+word+` 0 > refused none
			`+word+` 4 > refused none
			`+word+` 8 > refused none
			`+word+` 12 > refused none
			`+word+` 2147483647 > refused none
			broke 9
			`+word+` 9 > refused none
			till 90 > kill 10 2 0, ok
			`+word+` 10 > refused none
		`)
	}
}

func TestBooted(t *testing.T) {
	script(t, drained+`
		tick
		booted 5 > refused state
		booted 6 > refused state
		booted 7 > refused state
		booted 8 > refused state
		booted 1
		boxes > 1 0 0 warm pinned; 2 0 0 booting; 3 1 0 booting bound pinned; 4 1 0 booting bound; 5 2 0 warm pinned; 6 2 0 warm until 10; 7 3 0 busy pinned; 8 3 0 busy; 9 3 1 booting bound
		box 1 > mem 1 since 1
		booted 2
		booted 3
		booted 4
		booted 2 > refused state
		booted 3 > refused state
		boxes > 1 0 0 warm pinned; 2 0 0 warm until 11; 3 1 0 busy pinned; 4 1 0 busy; 5 2 0 warm pinned; 6 2 0 warm until 10; 7 3 0 busy pinned; 8 3 0 busy; 9 3 1 booting bound
		box 2 > mem 1 since 1
		box 3 > mem 1 since 1
		box 7 > mem 1 since 0
		till 10 > kill 6 2 0, ok
		till 11 > kill 2 0 0, ok
	`)
	// Until the window's End, of a window with a Pre, too.
	script(t, `
		account 0 99 99 0
		func 0 0 1 1 0 0
		host 0 9
		learn 0 20 4
		func 0 0 1 1 0 1 > boot 6 0 0, ok
		func 0 0 1 1 0 0
		ticks 3
		boots 0 > 98
		booted 6
		boxes > 6 0 0 warm until 107
		boots 0 > 98
	`)
	// It may go for room then, by what it is worth: its function was never called.
	script(t, `
		account 0 99 99 0
		func 0 0 1 9 0 1
		func 1 0 1 1 0 0
		func 2 0 1 1 0 0
		host 0 2 > boot 1 0 0, ok
		func 0 0 1 9 0 0
		call 2 > boot 2 2 0, cold 2
		booted 2
		call 1 > throttled room
		done 2
		booted 1
		call 1 > kill 1 0 0, boot 3 1 0, cold 3
	`)
}

func TestBroke(t *testing.T) {
	script(t, drained+`
		ticks 2
		# what is kept boots anew, where there is room, and what isn't doesn't
		broke 1
		boxes > 2 0 0 booting pinned; 3 1 0 booting bound pinned; 4 1 0 booting bound; 5 2 0 warm pinned; 6 2 0 warm until 10; 7 3 0 busy pinned; 8 3 0 busy; 9 3 1 booting bound
		free 0 > 1
		broke 2 > boot 10 0 0, ok
		broke 3
		busy 1 > 1
		boxes > 4 1 0 booting bound pinned; 5 2 0 warm pinned; 6 2 0 warm until 10; 7 3 0 busy pinned; 8 3 0 busy; 9 3 1 booting bound; 10 0 0 booting pinned
		broke 4 > boot 11 1 0, ok
		busy 1 > 0
		broke 5
		boxes > 6 2 0 warm pinned; 7 3 0 busy pinned; 8 3 0 busy; 9 3 1 booting bound; 10 0 0 booting pinned; 11 1 0 booting pinned
		ends 6 > none
		broke 7
		busy 3 > 2
		boxes > 6 2 0 warm pinned; 8 3 0 busy; 9 3 1 booting bound pinned; 10 0 0 booting pinned; 11 1 0 booting pinned
		broke 8
		busy 3 > 1
		broke 9 > boot 12 3 0, ok
		busy 3 > 0
		free 0 > 4
		free 1 > 4096
		till 20
	`)
	// One whose end is set.
	script(t, `
		account 0 99 99 0
		func 0 0 2 1 0 0
		func 1 0 2 1 0 0
		host 0 2
		call 0 > boot 1 0 0, cold 1
		booted 1
		done 1
		ends 1 > 10
		broke 1
		ends 1 > none
		free 0 > 2
		call 1 > boot 2 1 0, cold 2
		call 0 > throttled room
		ticks 20
	`)
	// Its function alone is kept.
	script(t, `
		account 0 99 99 0
		func 0 0 1 1 0 0
		func 1 0 1 1 0 0
		host 0 1
		call 1 > boot 1 1 0, cold 1
		func 0 0 1 1 0 1
		broke 1
		boxes >
		tick > boot 2 0 0, ok
	`)
	// A call that runs ends now: 7 ticks behind that the idle time is 7.
	script(t, `
		account 0 99 99 0
		func 0 0 1 1 0 0
		host 0 9
		learn 0 7 3
		ticks 7
		call 0 > warm 1
		ticks 100
		broke 1
		ticks 7
		call 0 > boot 2 0 0, cold 2
		window 0 > hist 6 9
		ticks 50
		broke 2
		ticks 7
		call 0 > boot 3 0 0, cold 3
		window 0 > hist 6 9
	`)
	// Of one that ran nothing none ends: the idle time goes on.
	script(t, `
		account 0 99 99 0
		func 0 0 1 1 0 0
		host 0 9
		learn 0 7 3
		ticks 5
		broke 1
		ticks 2
		call 0 > boot 2 0 0, cold 2
		window 0 > hist 6 9
	`)
	// One on a host that drains is its last.
	script(t, `
		account 0 99 99 0
		func 0 0 1 1 0 0
		host 0 9
		call 0 > boot 1 0 0, cold 1
		drain 0
		host 0 8 > refused state
		broke 1
		free 0 > 0
		host 0 8
	`)
}

func TestDone(t *testing.T) {
	script(t, drained+`
		tick
		done 1 > refused state
		done 2 > refused state
		done 3 > refused state
		done 4 > refused state
		done 5 > refused state
		done 6 > refused state
		done 7
		busy 3 > 2
		box 7 > mem 1 since 1
		done 8
		busy 3 > 1
		boxes > 1 0 0 booting pinned; 2 0 0 booting; 3 1 0 booting bound pinned; 4 1 0 booting bound; 5 2 0 warm pinned; 6 2 0 warm until 10; 7 3 0 warm pinned; 8 3 0 warm until 11; 9 3 1 booting bound
		done 7 > refused state
		done 8 > refused state
		ends 7 > none
		done 9 > refused state
	`)
	// With a Pre above 0: the sandbox goes, and a boot is set. Not so of one that is pinned, nor on a host that isn't Up.
	const learnt = `
		account 0 99 99 0
		func 0 0 1 1 0 0
		host 0 2
		learn 0 20 3
		ticks 20 > kill 4 0 0, ok
		call 0 > boot 5 0 0, cold 5
		booted 5
		boots 0 > none
	`
	script(t, learnt+`
		ticks 2
		done 5 > kill 5 0 0, ok
		boots 0 > 100
		boxes >
		busy 0 > 0
		free 0 > 2
	`)
	script(t, learnt+`
		func 0 0 1 1 0 1
		done 5
		boots 0 > none
		boxes > 5 0 0 warm pinned
		ticks 50
	`)
	script(t, learnt+`
		drain 0
		ticks 2
		done 5 > kill 5 0 0, ok
		boots 0 > none
		free 0 > 0
		host 0 2
		ticks 50
	`)
	// With a Pre of 0 on a host that isn't Up.
	script(t, `
		account 0 99 99 0
		func 0 0 1 1 0 0
		host 0 2
		call 0 > boot 1 0 0, cold 1
		booted 1
		drain 0
		done 1 > kill 1 0 0, ok
		ends 1 > none
		boots 0 > none
	`)
	// With a Pre of 0, by counts: until the window's End.
	script(t, `
		account 0 99 99 0
		func 0 0 1 1 0 0
		host 0 2
		learn 0 1 4
		window 0 > hist 0 3
		now > 4
		boxes > 1 0 0 warm until 7
		boots 0 > none
		till 6
		tick > kill 1 0 0, ok
	`)
	// The window is that of all idle times so far: the one ahead of this call counts.
	script(t, `
		account 0 99 99 0
		func 0 0 1 1 0 0
		host 0 2
		learn 0 5 3
		window 0 > fixed 0 10
		ends 1 > 25
		ticks 5
		call 0 > warm 1
		window 0 > hist 4 7
		done 1 > kill 1 0 0, ok
		boots 0 > 24
		till 24 > boot 2 0 0, ok
		booted 2
		ends 2 > 27
	`)
}

// P18.3: what a kill lets be

func TestKillLetsBe(t *testing.T) {
	script(t, `
		account 0 99 99 0
		func 0 0 2 1 0 0
		func 1 0 2 1 0 0
		host 0 2
		call 0 > boot 1 0 0, cold 1
		booted 1
		done 1
		ends 1 > 10
		call 1 > kill 1 0 0, boot 2 1 0, cold 2
		ends 1 > none
		booted 2
		# it is in the cache no more: what is idle now goes, and then nothing
		done 2
		call 0 > kill 2 1 0, boot 3 0 0, cold 3
		call 1 > throttled room
		till 10
		till 50
		boxes > 3 0 0 booting bound
	`)
}
