package core_test

import (
	"testing"
)

// P18.3: Host, Drain, Fail

func TestHost(t *testing.T) {
	script(t, `
		host 32 1 > refused arg
		host 2147483647 1 > refused arg
		host 0 0 > refused arg
		host 0 4097 > refused arg
		host 32 0 > refused arg
		free 0 > 0
		host 31 1
		free 31 > 1
		host 0 4096
		free 0 > 4096
		host 0 1 > refused state
		host 0 4096 > refused state
		host 0 0 > refused arg
		host 0 4097 > refused arg
		free 0 > 4096
		answered taken > 2
		answered refused > 9
	`)
	// All functions are kept, by rising numbers, and not if it is refused.
	script(t, `
		account 0 99 99 0
		func 3 0 2 1 0 1
		func 1 0 1 1 0 1
		func 0 0 3 1 0 1
		func 2 0 2 1 0 2
		host 0 0 > refused arg
		host 32 9 > refused arg
		host 0 6 > boot 1 0 0, boot 2 1 0, boot 3 2 0, ok
		host 0 6 > refused state
		host 1 6 > boot 4 2 1, boot 5 3 1, ok
		free 1 > 2
		boxes > 1 0 0 booting pinned; 2 1 0 booting pinned; 3 2 0 booting pinned; 4 2 1 booting pinned; 5 3 1 booting pinned
	`)
}

// drained is a host with sandboxes of each state, pinned and not: 1 and 2 boot, 3 and 4 boot for a call, 5 and 6 are warm, 7 and 8 busy; the odd ones are pinned. And 9 is on another host.
const drained = `
	account 0 99 99 0
	func 0 0 1 1 0 0
	func 1 0 1 1 0 0
	func 2 0 1 1 0 0
	func 3 0 1 1 0 0
	host 0 8
	func 0 0 1 1 0 2 > boot 1 0 0, boot 2 0 0, ok
	func 0 0 1 1 0 1
	call 1 > boot 3 1 0, cold 3
	call 1 > boot 4 1 0, cold 4
	func 1 0 1 1 0 1
	call 2 > boot 5 2 0, cold 5
	call 2 > boot 6 2 0, cold 6
	booted 5
	booted 6
	done 6
	done 5
	func 2 0 1 1 0 1
	call 3 > boot 7 3 0, cold 7
	call 3 > boot 8 3 0, cold 8
	booted 7
	booted 8
	func 3 0 1 1 0 1
	host 1 4096
	call 3 > boot 9 3 1, cold 9
	boxes > 1 0 0 booting pinned; 2 0 0 booting; 3 1 0 booting bound pinned; 4 1 0 booting bound; 5 2 0 warm pinned; 6 2 0 warm until 10; 7 3 0 busy pinned; 8 3 0 busy; 9 3 1 booting bound
`

func TestDrain(t *testing.T) {
	script(t, drained+`
		tick
		drain 2 > refused none
		drain 32 > refused none
		drain 2147483647 > refused none
		drain 0 > kill 1 0 0, kill 2 0 0, kill 5 2 0, kill 6 2 0, boot 10 0 1, boot 11 1 1, boot 12 2 1, ok
		boxes > 3 1 0 booting bound; 4 1 0 booting bound; 7 3 0 busy; 8 3 0 busy; 9 3 1 booting bound pinned; 10 0 1 booting pinned; 11 1 1 booting pinned; 12 2 1 booting pinned
		free 0 > 4
		ends 6 > none
		busy 1 > 2
		busy 2 > 0
		busy 3 > 3
		drain 0 > refused state
		host 0 9 > refused state
		host 0 0 > refused arg
		# what boots there goes on, and goes behind its call
		booted 3
		boxes > 3 1 0 busy; 4 1 0 booting bound; 7 3 0 busy; 8 3 0 busy; 9 3 1 booting bound pinned; 10 0 1 booting pinned; 11 1 1 booting pinned; 12 2 1 booting pinned
		done 4 > refused state
		done 3 > kill 3 1 0, ok
		free 0 > 5
		tick
		done 7 > kill 7 3 0, ok
		broke 4
		free 0 > 7
		drain 0 > refused state
		done 8 > kill 8 3 0, ok
		# now it is gone
		free 0 > 0
		drain 0 > refused none
		fail 0 > refused none
		host 0 5
		free 0 > 5
	`)
	// Nothing is on it: it is gone at once.
	script(t, `
		host 0 5
		drain 0
		free 0 > 0
		drain 0 > refused none
		host 0 6
		free 0 > 6
	`)
	// All of it goes: it is gone at once, too. What was kept boots elsewhere by rising numbers of functions, as far as there is room.
	script(t, `
		account 0 99 99 0
		host 0 9
		func 4 0 2 1 0 1 > boot 1 4 0, ok
		func 2 0 1 1 0 2 > boot 2 2 0, boot 3 2 0, ok
		booted 1
		host 1 3
		drain 0 > kill 1 4 0, kill 2 2 0, kill 3 2 0, boot 4 2 1, boot 5 2 1, ok
		free 0 > 0
		free 1 > 1
		host 0 2 > boot 6 4 0, ok
	`)
	// What has room on it isn't there any more for new ones.
	script(t, `
		account 0 99 99 0
		func 0 0 1 1 0 0
		host 0 9
		call 0 > boot 1 0 0, cold 1
		drain 0
		call 0 > throttled room
		free 0 > 8
		func 0 0 1 1 0 1
		boxes > 1 0 0 booting bound
		tick
		host 1 1 > boot 2 0 1, ok
	`)
}

// A host that is there again has a cache of its own, whose Clock is 0.
func TestHostAgain(t *testing.T) {
	const full = `
		account 0 99 99 0
		func 0 0 1 10 0 0
		func 1 0 1 12 0 0
		func 2 0 1 3 0 0
		func 3 0 1 1 0 0
		func 4 0 1 1 0 0
		func 9 0 1 1 0 0
		host 0 2
		call 0 > boot 1 0 0, cold 1
		call 1 > boot 2 1 0, cold 2
		booted 1
		booted 2
		done 1
		done 2
		call 2 > kill 1 0 0, boot 3 2 0, cold 3
		booted 3
		done 3
	`
	const again = `
		call 1 > boot 4 1 0, cold 4
		call 2 > boot 5 2 0, cold 5
		booted 4
		booted 5
		done 4
		done 5
		call 3 > kill 5 2 0, boot 6 3 0, cold 6
	`
	// What came later is worth more by what went: 3 is worth 13, 2 is worth 12.
	script(t, full+`
		call 3 > kill 2 1 0, boot 4 3 0, cold 4
	`)
	script(t, full+`
		fail 0
		host 0 2
	`+again)
	script(t, full+`
		drain 0 > kill 2 1 0, kill 3 2 0, ok
		host 0 2
	`+again)
	script(t, full+`
		call 9 > kill 2 1 0, boot 4 9 0, cold 4
		drain 0 > kill 3 2 0, ok
		broke 4
		host 0 2
		call 1 > boot 5 1 0, cold 5
		call 2 > boot 6 2 0, cold 6
		booted 5
		booted 6
		done 5
		done 6
		call 3 > kill 6 2 0, boot 7 3 0, cold 7
	`)
}

func TestFail(t *testing.T) {
	script(t, drained+`
		ticks 2
		fail 2 > refused none
		fail 32 > refused none
		fail 0 > boot 10 0 1, boot 11 1 1, boot 12 2 1, ok
		boxes > 9 3 1 booting bound pinned; 10 0 1 booting pinned; 11 1 1 booting pinned; 12 2 1 booting pinned
		free 0 > 0
		busy 1 > 0
		busy 3 > 1
		ends 6 > none
		booted 1 > refused none
		done 8 > refused none
		fail 0 > refused none
		ticks 20
		host 0 3
		free 0 > 3
	`)
	// Calls that run end now: 3 ticks behind that the idle time is 3.
	script(t, `
		account 0 99 99 0
		func 0 0 1 1 0 0
		host 0 9
		learn 0 3 3
		ticks 3
		call 0 > warm 1
		call 0 > boot 2 0 0, cold 2
		ticks 100
		fail 0
		busy 0 > 0
		host 0 9
		ticks 3
		call 0 > boot 3 0 0, cold 3
		booted 3
		window 0 > hist 2 5
		done 3 > kill 3 0 0, ok
		boots 0 > 117
	`)
	// One that drains, with a call that runs.
	script(t, `
		account 0 99 99 0
		func 0 0 1 1 0 1
		host 0 9 > boot 1 0 0, ok
		booted 1
		call 0 > warm 1
		drain 0
		host 1 4 > boot 2 0 1, ok
		fail 0
		busy 0 > 0
		boxes > 2 0 1 booting pinned
		fail 0 > refused none
		host 0 3
	`)
	// An empty one; all functions are kept behind that.
	script(t, `
		account 0 99 99 0
		func 0 0 1 1 0 2
		host 0 1 > boot 1 0 0, ok
		host 1 1 > boot 2 0 1, ok
		host 2 1
		fail 2
		fail 1 > ok
		boxes > 1 0 0 booting pinned
		host 1 1 > boot 3 0 1, ok
	`)
	// The other function has room then by rising numbers.
	script(t, `
		account 0 99 99 0
		func 1 0 1 1 0 1
		func 0 0 1 1 0 1
		host 0 2 > boot 1 0 0, boot 2 1 0, ok
		host 1 1
		booted 2
		fail 0 > boot 3 0 1, ok
		tick
		boxes > 3 0 1 booting pinned
	`)
}
