package play_test

import "testing"

// P5: of idle times that are all alike, and counted one by one.
func TestAWindowByCounts(t *testing.T) {
	script(t, `
		account 0 9 99 9
		func 0 0 1 1 0 0
		host 0 9
		call 0 > boot 1 0 0, cold 1
		booted 1
		done 1
		# As long as too little is known it stays for 10 ticks.
		tick x9
		tick > kill 1 0 0, ok
		tick x10
		call 0 > boot 2 0 0, cold 2
		booted 2
		done 2
		tick x9
		tick > kill 2 0 0, ok
		tick x10
		call 0 > boot 3 0 0, cold 3
		booted 3
		done 3
		tick x9
		tick > kill 3 0 0, ok
		tick x10
		call 0 > boot 4 0 0, cold 4
		booted 4
		done 4
		tick x9
		tick > kill 4 0 0, ok
		tick x10
		call 0 > boot 5 0 0, cold 5
		booted 5
		# Four of 20: from 18 to 24.
		done 5 > kill 5 0 0, ok
		tick x17
		tick > boot 6 0 0, ok
		booted 6
		tick x2
		call 0 > warm 6
		done 6 > kill 6 0 0, ok
		tick x17
		tick > boot 7 0 0, ok
		tick x2
		booted 7
		tick x3
		tick > kill 7 0 0, ok
		tick x40
		call 0 > boot 8 0 0, cold 8
		booted 8
		# Of 64 once, and 20 five times: from 18 to 72.
		done 8 > kill 8 0 0, ok
		tick x17
		tick > boot 9 0 0, ok
		tick x53
		tick
		# It has booted only now, when its window is over.
		booted 9 > kill 9 0 0, ok
		# One that was to be kept, and isn't any more, is there as long as its window says.
		func 0 0 1 1 0 1 > boot 10 0 0, ok
		func 0 0 1 1 0 0
		booted 10
		tick x71
		tick > kill 10 0 0, ok
		# And so is one that was kept, booted, and idle.
		func 0 0 1 1 0 1 > boot 11 0 0, ok
		booted 11
		tick x100
		func 0 0 1 1 0 0
		tick x71
		tick > kill 11 0 0, ok
	`)
}

// P5: of idle times that are too long to be counted one by one.
func TestAWindowByWhatComesNext(t *testing.T) {
	script(t, `
		account 0 9 99 9
		func 0 0 1 1 0 0
		host 0 9
		call 0 > boot 1 0 0, cold 1
		booted 1
		done 1
		tick x9
		tick > kill 1 0 0, ok
		tick x290
		call 0 > boot 2 0 0, cold 2
		booted 2
		done 2
		tick x9
		tick > kill 2 0 0, ok
		tick x310
		call 0 > boot 3 0 0, cold 3
		booted 3
		done 3
		tick x9
		tick > kill 3 0 0, ok
		tick x330
		call 0 > boot 4 0 0, cold 4
		booted 4
		done 4
		tick x9
		tick > kill 4 0 0, ok
		tick x350
		call 0 > boot 5 0 0, cold 5
		booted 5
		# Behind 300, 320, 340, 360 comes 380: from 323 to 437.
		done 5 > kill 5 0 0, ok
		tick x322
		tick > boot 6 0 0, ok
		booted 6
		tick x57
		call 0 > warm 6
		# Behind 380 comes 400: from 340 to 460.
		done 6 > kill 6 0 0, ok
		tick x339
		tick > boot 7 0 0, ok
		booted 7
		tick x119
		tick > kill 7 0 0, ok
		# A call comes ahead of the boot: that isn't set any more.
		call 0 > boot 8 0 0, cold 8
		booted 8
		done 8 > kill 8 0 0, ok
		tick x100
		call 0 > boot 9 0 0, cold 9
		broke 9
		tick x400
	`)
}

// P5: nothing goes for what boots ahead of a call, and it boots just if none of its function's is there.
func TestABootAheadTakesNothing(t *testing.T) {
	const four = `
		account 0 9 99 9
		func 0 0 2 1 0 0
		func 1 0 3 1 0 0
		host 0 4
		call 0 > boot 1 0 0, cold 1
		booted 1
		done 1
		tick x5
		call 0 > warm 1
		done 1
		tick x5
		call 0 > warm 1
		done 1
		tick x5
		call 0 > warm 1
		done 1
		tick x5
		call 0 > warm 1
		# Four of 5: from 4 to 7.
		done 1 > kill 1 0 0, ok
	`
	script(t, four+`
		tick x3
		tick > boot 2 0 0, ok
		booted 2
		tick x2
		tick > kill 2 0 0, ok
	`)
	script(t, four+`
		call 1 > boot 2 1 0, cold 2
		booted 2
		done 2
		# There is no room, though what is idle could go.
		tick x9
		tick > kill 2 1 0, ok
		tick x20
		call 0 > boot 3 0 0, cold 3
	`)
	script(t, four+`
		# One is there, as one is kept.
		func 0 0 2 1 0 1 > boot 2 0 0, ok
		tick x20
		func 0 0 2 1 0 0
		booted 2
		call 0 > warm 2
	`)
}

// P4: what is kept comes again, as soon as there is room.
func TestWhatIsKeptComesAgain(t *testing.T) {
	script(t, `
		account 0 99 99 0
		func 0 0 2 1 0 2
		func 1 0 3 1 0 0
		host 0 5 > boot 1 0 0, boot 2 0 0, ok
		booted 1
		booted 2
		tick x100
		call 1 > throttled room
		call 0 > warm 1
		call 0 > warm 2
		call 0 > throttled room
		done 1
		done 2
		broke 1 > boot 3 0 0, ok
		call 0 > warm 2
		# That takes the place of no call.
		fail 0
		call 0 > throttled room
		host 1 3 > boot 4 0 1, ok
		host 2 4 > boot 5 0 2, ok
		drain 1 > kill 4 0 1, boot 6 0 2, ok
		booted 5
		call 0 > warm 5
		drain 2 > kill 6 0 2, ok
		host 3 9 > boot 7 0 3, boot 8 0 3, ok
		done 5 > kill 5 0 2, ok
		func 0 0 2 1 0 1
		booted 8
		tick x9
		tick > kill 8 0 3, ok
		booted 7
		tick x99
		call 0 > warm 7
	`)
}

// P2: behind a limit that was lowered none begins, until fewer run; and what is reserved is left to whom it is reserved for.
func TestLimitsThatAreLowered(t *testing.T) {
	script(t, `
		account 0 5 99 0
		func 0 0 1 1 2 0
		func 1 0 1 1 0 0
		host 0 99
		call 1 > boot 1 1 0, cold 1
		call 1 > boot 2 1 0, cold 2
		call 1 > boot 3 1 0, cold 3
		call 1 > throttled account
		call 0 > boot 4 0 0, cold 4
		call 0 > boot 5 0 0, cold 5
		call 0 > throttled function
		account 0 1 99 0 > refused quota
		account 0 3 99 0
		call 1 > throttled account
		call 0 > throttled function
		broke 4
		call 0 > throttled account
		broke 1
		call 0 > throttled account
		broke 2
		call 0 > boot 6 0 0, cold 6
		call 1 > throttled account
		func 0 0 1 1 1 0
		call 0 > throttled function
		broke 5
		call 0 > throttled function
		call 1 > boot 7 1 0, cold 7
		call 1 > throttled account
		broke 6
		call 1 > throttled account
		call 0 > boot 8 0 0, cold 8
	`)
}

// P5, of tokens, and P3: what is throttled takes none, and none goes for what is throttled.
func TestTokens(t *testing.T) {
	script(t, `
		account 0 99 2 1
		func 0 0 2 1 0 0
		func 1 0 2 1 0 0
		host 0 4
		call 0 > boot 1 0 0, cold 1
		booted 1
		done 1
		call 1 > boot 2 1 0, cold 2
		call 1 > throttled tokens
		call 0 > warm 1
		tick
		call 1 > throttled room
		call 1 > throttled room
		done 1
		call 1 > kill 1 0 0, boot 3 1 0, cold 3
		call 1 > throttled tokens
		tick x9
		call 1 > throttled room
		broke 2
		broke 3
		call 1 > boot 4 1 0, cold 4
		call 0 > boot 5 0 0, cold 5
		call 0 > throttled tokens
	`)
}
