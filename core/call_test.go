package core_test

import (
	"testing"
)

// P18.4: Call

func TestCall(t *testing.T) {
	script(t, `
		account 0 2 9 0
		account 1 9 1 0
		func 0 0 2 1 0 0
		func 1 1 2 1 0 0
		func 2 1 2 1 1 0
		func 63 1 9 1 0 0
		call 3 > refused none
		call 62 > refused none
		call 64 > refused none
		call 2147483647 > refused none
		call 0 > throttled room
		host 0 8
		call 0 > boot 1 0 0, cold 1
		boxes > 1 0 0 booting bound
		tokens 0 > 8
		# what boots isn't idle
		call 0 > boot 2 0 0, cold 2
		call 0 > throttled account
		call 1 > boot 3 1 0, cold 3
		call 63 > throttled tokens
		call 2 > throttled tokens
		tokens 1 > 0
		busy 0 > 2
		busy 1 > 1
		busy 2 > 0
	`)
	// Those that are idle: the one with the greatest Since, pinned or not, and of several the least number.
	script(t, `
		account 0 9 9 0
		func 0 0 1 1 0 0
		host 0 9
		call 0 > boot 1 0 0, cold 1
		call 0 > boot 2 0 0, cold 2
		call 0 > boot 3 0 0, cold 3
		call 0 > boot 4 0 0, cold 4
		call 0 > boot 5 0 0, cold 5
		booted 1
		booted 2
		booted 3
		booted 4
		booted 5
		done 1
		tick
		done 4
		done 2
		done 3
		tick
		done 5
		func 0 0 1 1 0 2
		boxes > 1 0 0 warm pinned; 2 0 0 warm pinned; 3 0 0 warm until 11; 4 0 0 warm until 11; 5 0 0 warm until 12
		tokens 0 > 4
		call 0 > warm 5
		call 0 > warm 2
		call 0 > warm 3
		call 0 > warm 4
		call 0 > warm 1
		tokens 0 > 4
		boxes > 1 0 0 busy pinned; 2 0 0 busy pinned; 3 0 0 busy; 4 0 0 busy; 5 0 0 busy
		box 1 > mem 1 since 2
		call 0 > boot 6 0 0, cold 6
	`)
	// A sandbox of its function alone; and one that has just booted.
	script(t, `
		account 0 9 9 0
		func 0 0 1 1 0 0
		func 1 0 1 1 0 1
		host 0 9 > boot 1 1 0, ok
		booted 1
		call 0 > boot 2 0 0, cold 2
		call 1 > warm 1
		booted 2
		done 2
		tick
		done 1
		call 0 > warm 2
	`)
}

// What is throttled, for each reason, in the order in which they are asked.
func TestThrottled(t *testing.T) {
	// As many run as are reserved: ahead of the account's limit, of tokens and of room, and though one is warm.
	script(t, `
		account 0 2 2 0
		func 0 0 1 1 1 0
		func 1 0 1 1 0 0
		host 0 2
		call 0 > boot 1 0 0, cold 1
		call 0 > throttled function
		call 1 > boot 2 1 0, cold 2
		tokens 0 > 0
		free 0 > 0
		call 0 > throttled function
		call 1 > throttled account
		account 0 1 0 0
		call 0 > throttled function
		broke 1
		call 0 > throttled account
		account 0 2 0 0
		call 0 > throttled tokens
	`)
	script(t, `
		account 0 9 9 0
		func 0 0 1 1 0 0
		host 0 9
		call 0 > boot 1 0 0, cold 1
		call 0 > boot 2 0 0, cold 2
		booted 1
		booted 2
		done 2
		func 0 0 1 1 1 0
		call 0 > throttled function
		boxes > 1 0 0 busy; 2 0 0 warm until 10
		func 0 0 1 1 2 0
		call 0 > warm 2
	`)
	// As many of the account as may: all of them, or those without reserved ones; though one is warm.
	script(t, `
		account 0 3 0 0
		account 1 9 9 9
		func 0 0 1 1 0 1
		func 1 0 1 1 2 1
		func 2 0 1 1 0 0
		func 3 1 1 1 0 0
		host 0 2 > boot 1 0 0, boot 2 1 0, ok
		booted 1
		booted 2
		call 0 > warm 1
		call 0 > throttled account
		call 2 > throttled account
		call 1 > warm 2
		call 1 > throttled tokens
		call 3 > throttled room
		done 1
		account 0 2 0 0
		call 0 > throttled account
		boxes > 1 0 0 warm pinned; 2 1 0 busy pinned
		account 0 3 0 0
		call 0 > warm 1
	`)
	// No tokens: ahead of room; but a warm one needs none.
	script(t, `
		account 0 9 1 0
		func 0 0 1 1 0 0
		func 1 0 9 1 0 0
		host 0 2
		call 1 > throttled room
		tokens 0 > 1
		call 0 > boot 1 0 0, cold 1
		call 1 > throttled tokens
		call 0 > throttled tokens
		booted 1
		done 1
		call 0 > warm 1
		done 1
		account 0 9 9 1
		tick
		call 1 > throttled room
		tokens 0 > 1
		boxes > 1 0 0 warm until 10
	`)
	// Without tokens nothing goes for room.
	script(t, `
		account 0 9 1 0
		account 1 9 0 0
		func 0 0 1 1 0 0
		func 1 1 1 1 0 0
		host 0 1
		call 0 > boot 1 0 0, cold 1
		booted 1
		done 1
		call 1 > throttled tokens
		boxes > 1 0 0 warm until 10
	`)
}

// What a call lets be: the sandbox's end, its place in the cache, the function's boot.
func TestCallLetsBe(t *testing.T) {
	script(t, `
		account 0 9 9 0
		func 0 0 1 1 0 0
		func 1 0 1 1 0 0
		host 0 1
		call 0 > boot 1 0 0, cold 1
		booted 1
		done 1
		ticks 4
		ends 1 > 10
		call 0 > warm 1
		ends 1 > none
		call 1 > throttled room
		till 50
		boxes > 1 0 0 busy
		done 1
		ends 1 > 60
	`)
	const learnt = `
		account 0 9 99 0
		func 0 0 1 1 0 0
		func 1 0 1 1 0 0
		host 0 9
		learn 0 20 4
		boots 0 > 98
	`
	script(t, learnt+`
		# a cold one
		till 85
		call 0 > boot 6 0 0, cold 6
		boots 0 > none
		ticks 1
		broke 6
		ticks 50
	`)
	script(t, learnt+`
		# a warm one
		func 0 0 1 1 0 1 > boot 6 0 0, ok
		booted 6
		boots 0 > 98
		call 0 > warm 6
		boots 0 > none
		broke 6 > boot 7 0 0, ok
		broke 7 > boot 8 0 0, ok
		func 0 0 1 1 0 0
		broke 8
		ticks 50
	`)
	script(t, learnt+`
		# not what befalls a sandbox, whose own end and place it is
		func 0 0 1 1 0 2 > boot 6 0 0, boot 7 0 0, ok
		booted 6
		broke 6 > boot 8 0 0, ok
		func 0 0 1 1 0 0
		boots 0 > 98
		broke 7
		drain 0 > kill 8 0 0, ok
		boots 0 > 98
		host 0 9
		fail 0
		host 0 9
		boots 0 > 98
		till 97
		tick > boot 9 0 0, ok
	`)
	script(t, learnt+`
		# not one that is throttled or refused, nor another function's
		account 0 0 99 0
		call 0 > throttled account
		account 0 9 99 0
		call 2 > refused none
		call 1 > boot 6 1 0, cold 6
		boots 0 > 98
		func 0 0 1 1 0 0
		boots 0 > 98
		host 1 1
		fail 1
		broke 6
		boots 0 > 98
		till 97
		tick > boot 7 0 0, ok
	`)
}

// P18.4: idle times

func TestIdleTimes(t *testing.T) {
	// None is counted ahead of the first call, nor while another one runs; each cold or warm one is.
	script(t, `
		account 0 99 99 0
		func 0 0 1 1 0 0
		host 0 9
		ticks 7
		call 0 > boot 1 0 0, cold 1
		booted 1
		ticks 3
		call 0 > boot 2 0 0, cold 2
		booted 2
		done 1
		ticks 5
		call 0 > warm 1
		done 1
		ticks 5
		call 0 > warm 1
		done 1
		ticks 5
		call 0 > warm 1
		done 1
		ticks 5
		call 0 > warm 1
		done 1
		ticks 5
		window 0 > fixed 0 10
		call 0 > warm 1
		window 0 > fixed 0 10
		# behind the last one's end, not the first one's: 5, not 6
		done 1
		tick
		done 2
		ticks 5
		call 0 > warm 2
		done 2
		ticks 5 > kill 1 0 0, ok
		call 0 > warm 2
		done 2
		ticks 5
		call 0 > warm 2
		done 2
		ticks 5
		window 0 > fixed 0 10
		call 0 > warm 2
		window 0 > hist 4 7
	`)
	// At the same tick it is 0, and counts.
	script(t, `
		account 0 99 99 0
		func 0 0 1 1 0 0
		host 0 9
		ticks 7
		learn 0 0 3
		window 0 > fixed 0 10
		call 0 > warm 1
		window 0 > hist 0 2
		done 1
		ends 1 > 9
	`)
	// A throttled call counts none, and doesn't end the idle time.
	script(t, `
		account 0 99 99 0
		func 0 0 1 1 0 0
		host 0 9
		learn 0 8 3
		ticks 3
		account 0 0 99 0
		call 0 > throttled account
		call 0 > throttled account
		window 0 > fixed 0 10
		account 0 99 99 0
		ticks 5
		call 0 > warm 1
		window 0 > hist 7 10
	`)
	// Each function has its own.
	script(t, `
		account 0 99 99 0
		func 0 0 1 1 0 0
		func 1 0 1 1 0 0
		host 0 9
		learn 0 8 4
		window 0 > hist 7 10
		window 1 > fixed 0 10
		call 1 > boot 2 1 0, cold 2
		booted 2
		done 2
		ticks 2
		learn 1 6 2
		window 1 > fixed 0 10
		window 0 > hist 7 10
	`)
	// One that ends by a kill ends now, and so does one that never ran, but for which a sandbox boots.
	script(t, `
		account 0 99 99 0
		func 0 0 1 1 0 0
		host 0 9
		call 0 > boot 1 0 0, cold 1
		ticks 9
		broke 1
		ticks 4
		call 0 > boot 2 0 0, cold 2
		ticks 9
		broke 2
		ticks 4
		call 0 > boot 3 0 0, cold 3
		ticks 9
		fail 0
		host 0 9
		ticks 4
		call 0 > boot 4 0 0, cold 4
		booted 4
		ticks 9
		drain 0
		done 4 > kill 4 0 0, ok
		host 0 9
		ticks 4
		call 0 > boot 5 0 0, cold 5
		window 0 > hist 3 6
	`)
}
