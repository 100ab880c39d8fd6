package core_test

import (
	"testing"
)

// P18.3: Tick

func TestTicks(t *testing.T) {
	script(t, `
		account 0 9 3 2
		account 1 9 9 1
		func 0 0 1 1 0 0
		func 1 1 1 1 0 0
		host 0 99
		call 0 > boot 1 0 0, cold 1
		call 0 > boot 2 0 0, cold 2
		call 0 > boot 3 0 0, cold 3
		call 0 > throttled tokens
		call 1 > boot 4 1 0, cold 4
		call 1 > boot 5 1 0, cold 5
		call 1 > boot 6 1 0, cold 6
		tokens 0 > 0
		tokens 1 > 6
		tick
		now > 1
		tokens 0 > 2
		tokens 1 > 7
		tick
		now > 2
		tokens 0 > 3
		tokens 1 > 8
		ticks 3
		now > 5
		tokens 0 > 3
		tokens 1 > 9
		box 1 > mem 1 since 0
	`)
}

// Several ends of one tick come by their sandboxes' numbers, whichever was set first.
func TestEndsOfOneTick(t *testing.T) {
	script(t, `
		account 0 9 9 0
		func 0 0 2 1 0 0
		func 1 0 1 1 0 0
		host 0 4
		host 1 9
		call 1 > boot 1 1 0, cold 1
		call 0 > boot 2 0 0, cold 2
		call 1 > boot 3 1 0, cold 3
		call 0 > boot 4 0 1, cold 4
		booted 1
		booted 2
		booted 3
		booted 4
		tick
		done 4
		done 1
		done 3
		done 2
		boxes > 1 1 0 warm until 11; 2 0 0 warm until 11; 3 1 0 warm until 11; 4 0 1 warm until 11
		till 10
		tick > kill 1 1 0, kill 2 0 0, kill 3 1 0, kill 4 0 1, ok
		boxes >
		free 0 > 4
		free 1 > 9
		ends 1 > none
		ticks 20
	`)
}

// An end comes at just its tick, and the time is one more ahead of it.
func TestEnd(t *testing.T) {
	script(t, `
		account 0 9 9 0
		func 0 0 2 1 0 0
		host 0 4
		ticks 5
		call 0 > boot 1 0 0, cold 1
		ticks 2
		booted 1
		ticks 2
		done 1
		ends 1 > 19
		till 18
		boxes > 1 0 0 warm until 19
		tick > kill 1 0 0, ok
		now > 19
		call 0 > boot 2 0 0, cold 2
	`)
}

// An end comes ahead of a boot at one tick: the function whose last sandbox goes boots anew.
func TestEndAndBootOfOneTick(t *testing.T) {
	script(t, `
		account 0 9 99 0
		func 0 0 2 1 0 0
		host 0 4
		func 0 0 2 1 0 1 > boot 1 0 0, ok
		booted 1
		learn 0 20 4
		window 0 > hist 18 24
		ticks 20
		call 0 > warm 1
		call 0 > boot 2 0 0, cold 2
		booted 2
		done 1
		boots 0 > none
		func 0 0 2 1 0 0
		now > 100
		ends 1 > 124
		ticks 6
		done 2 > kill 2 0 0, ok
		boots 0 > 124
		till 123
		tick > kill 1 0 0, boot 3 0 0, ok
		boots 0 > none
		booted 3
		ends 3 > 130
	`)
	// And it may boot on what another one's end gives back.
	script(t, `
		account 0 9 99 0
		func 0 0 2 1 0 0
		func 1 0 2 1 0 0
		host 0 2
		learn 0 20 4
		boots 0 > 98
		till 85
		call 1 > boot 6 1 0, cold 6
		booted 6
		till 88
		done 6
		ends 6 > 98
		till 97
		tick > kill 6 1 0, boot 7 0 0, ok
	`)
}

// A tick's boots come ahead of what is kept.
func TestBootAheadOfWhatIsKept(t *testing.T) {
	script(t, `
		account 0 9 99 0
		func 1 0 2 1 0 0
		host 0 2
		learn 1 20 4
		func 0 0 2 1 0 0
		func 2 0 2 1 0 0
		call 2 > boot 6 2 0, cold 6
		func 0 0 2 1 0 1
		till 97
		broke 6
		boots 1 > 98
		tick > boot 7 1 0, ok
		boxes > 7 1 0 booting
		broke 7
		tick > boot 8 0 0, ok
	`)
}

// Behind a tick all functions are kept, by rising numbers.
func TestTickKeepsAll(t *testing.T) {
	script(t, `
		account 0 9 99 0
		func 9 0 2 1 0 0
		host 0 2
		call 9 > boot 1 9 0, cold 1
		func 63 0 1 1 0 1
		func 5 0 1 1 0 1
		func 0 0 1 1 0 1
		broke 1
		boxes >
		tick > boot 2 0 0, boot 3 5 0, ok
		tick
		host 1 2 > boot 4 63 1, ok
	`)
}

// Boots of one tick come by their functions' numbers.
func TestBootsOfOneTick(t *testing.T) {
	script(t, `
		account 0 9 99 0
		func 1 0 2 1 0 0
		func 4 0 1 1 0 0
		func 0 0 1 1 0 0
		host 0 9
		call 4 > boot 1 4 0, cold 1
		call 1 > boot 2 1 0, cold 2
		call 0 > boot 3 0 0, cold 3
		broke 1
		broke 2
		broke 3
		ticks 20
		call 4 > boot 4 4 0, cold 4
		call 1 > boot 5 1 0, cold 5
		call 0 > boot 6 0 0, cold 6
		broke 5
		broke 6
		broke 4
		ticks 20
		call 4 > boot 7 4 0, cold 7
		call 1 > boot 8 1 0, cold 8
		call 0 > boot 9 0 0, cold 9
		broke 7
		broke 8
		broke 9
		ticks 20
		call 4 > boot 10 4 0, cold 10
		call 1 > boot 11 1 0, cold 11
		call 0 > boot 12 0 0, cold 12
		broke 12
		broke 11
		broke 10
		ticks 20
		call 4 > boot 13 4 0, cold 13
		call 1 > boot 14 1 0, cold 14
		call 0 > boot 15 0 0, cold 15
		booted 13
		booted 14
		booted 15
		done 13 > kill 13 4 0, ok
		done 14 > kill 14 1 0, ok
		done 15 > kill 15 0 0, ok
		boots 0 > 98
		boots 1 > 98
		boots 4 > 98
		till 97
		tick > boot 16 0 0, boot 17 1 0, boot 18 4 0, ok
	`)
}

// A boot comes at just its tick, and is nothing if the function has a sandbox, in whichever state.
func TestBootOfOneThatHasASandbox(t *testing.T) {
	const learnt = `
		account 0 9 99 0
		func 0 0 2 1 0 0
		host 0 9
		host 1 2
		learn 0 20 4
		window 0 > hist 18 24
		boots 0 > 98
	`
	script(t, learnt+`
		boxes >
		till 97
		boots 0 > 98
		tick > boot 6 0 1, ok
		boots 0 > none
		boxes > 6 0 1 booting
		box 6 > mem 2 since 98
		ticks 50
	`)
	script(t, learnt+`
		# one that is kept, and boots
		func 0 0 2 1 0 1 > boot 6 0 1, ok
		boots 0 > 98
		till 97
		tick
		boots 0 > none
		ticks 50
	`)
	script(t, learnt+`
		# one that is kept, and is warm
		func 0 0 2 1 0 1 > boot 6 0 1, ok
		booted 6
		boots 0 > 98
		ticks 50
		boots 0 > none
	`)
	script(t, learnt+`
		# one that isn't kept any more, and is warm
		func 0 0 2 1 0 1 > boot 6 0 1, ok
		booted 6
		func 0 0 2 1 0 0
		ends 6 > 104
		till 98
		boots 0 > none
		boxes > 6 0 1 warm until 104
		till 104 > kill 6 0 1, ok
	`)
	script(t, `
		account 0 9 99 0
		func 0 0 2 1 0 0
		host 0 9
		host 1 2
		learn 0 20 3
		ticks 20 > kill 4 0 1, ok
		# two that run, of which one is done
		call 0 > boot 5 0 1, cold 5
		call 0 > boot 6 0 0, cold 6
		booted 5
		done 5 > kill 5 0 1, ok
		boots 0 > 98
		busy 0 > 1
		till 98
		boots 0 > none
		boxes > 6 0 0 booting bound
		ticks 9
	`)
	script(t, `
		account 0 9 99 0
		func 0 0 2 1 0 0
		host 0 9
		host 1 2
		learn 0 20 3
		ticks 20 > kill 4 0 1, ok
		# the other one on a host that drains
		call 0 > boot 5 0 1, cold 5
		call 0 > boot 6 0 0, cold 6
		booted 5
		booted 6
		drain 0
		done 5 > kill 5 0 1, ok
		till 98
		boots 0 > none
		boxes > 6 0 0 busy
		done 6 > kill 6 0 0, ok
		boots 0 > none
	`)
}

// A boot that is set anew comes at the later time, and is ahead until the later one.
func TestBootSetAnew(t *testing.T) {
	script(t, `
		account 0 9 99 0
		func 0 0 2 1 0 0
		host 0 9
		learn 0 20 3
		ticks 20 > kill 4 0 0, ok
		call 0 > boot 5 0 0, cold 5
		call 0 > boot 6 0 0, cold 6
		booted 5
		booted 6
		done 5 > kill 5 0 0, ok
		boots 0 > 98
		ticks 7
		done 6 > kill 6 0 0, ok
		boots 0 > 105
		till 104
		tick > boot 7 0 0, ok
		booted 7
		ends 7 > 111
	`)
}

// A boot takes what is free by Fit alone, though what is idle could go; and it isn't asked again.
func TestBootWithoutRoom(t *testing.T) {
	script(t, `
		account 0 9 99 0
		func 0 0 2 1 0 0
		func 1 0 1 1 0 0
		host 0 2
		learn 0 20 4
		till 89
		call 1 > boot 6 1 0, cold 6
		booted 6
		done 6
		ends 6 > 99
		till 98
		boots 0 > none
		boxes > 6 1 0 warm until 99
		free 0 > 1
		tick > kill 6 1 0, ok
		ticks 20
		call 0 > boot 7 0 0, cold 7
	`)
	// No host at all, or one that drains.
	script(t, `
		account 0 9 99 0
		func 0 0 2 1 0 0
		func 1 0 1 1 0 0
		host 0 9
		learn 0 20 4
		call 1 > boot 6 1 0, cold 6
		drain 0
		free 0 > 8
		ticks 50
		boots 0 > none
		boxes > 6 1 0 booting bound
	`)
	// The host is layer 13's Fit's: the one with the least that is free.
	script(t, `
		account 0 9 99 0
		func 0 0 2 1 0 0
		host 0 9
		learn 0 20 4
		host 1 1
		host 2 4
		host 3 3
		host 4 3
		till 97
		tick > boot 6 0 3, ok
	`)
}

// What is ahead is there until the time that was said with its boot.
func TestAhead(t *testing.T) {
	const ahead = `
		account 0 9 99 0
		func 0 0 2 1 0 0
		host 0 9
		learn 0 20 4
		till 97
		tick > boot 6 0 0, ok
		boxes > 6 0 0 booting
	`
	script(t, ahead+`
		# booted at once
		booted 6
		boxes > 6 0 0 warm until 104
		till 103
		tick > kill 6 0 0, ok
	`)
	script(t, ahead+`
		# booted later, but before that time
		till 103
		booted 6
		boxes > 6 0 0 warm until 104
		box 6 > mem 2 since 103
		tick > kill 6 0 0, ok
	`)
	script(t, ahead+`
		# at that time
		till 104
		boxes > 6 0 0 booting
		booted 6 > kill 6 0 0, ok
		boxes >
		free 0 > 9
		ends 6 > none
	`)
	script(t, ahead+`
		# behind it
		till 120
		booted 6 > kill 6 0 0, ok
		boxes >
		busy 0 > 0
		call 0 > boot 7 0 0, cold 7
	`)
	script(t, ahead+`
		# a call takes it, and it is ahead no more
		booted 6
		till 100
		call 0 > warm 6
		ends 6 > none
		ticks 30
		done 6 > kill 6 0 0, ok
		boots 0 > 148
	`)
	script(t, ahead+`
		# a call doesn't wait for it, and boots another one
		call 0 > boot 7 0 0, cold 7
		booted 6
		boxes > 6 0 0 warm until 104; 7 0 0 booting bound
		till 104 > kill 6 0 0, ok
	`)
	script(t, ahead+`
		# kept before it has booted, and no more behind that
		func 0 0 2 1 0 1
		booted 6
		boxes > 6 0 0 warm pinned
		ticks 1
		func 0 0 2 1 0 0
		boxes > 6 0 0 warm until 123
	`)
	script(t, ahead+`
		# kept for a while before it has booted
		func 0 0 2 1 0 1
		boxes > 6 0 0 booting pinned
		func 0 0 2 1 0 0
		ticks 2
		booted 6
		boxes > 6 0 0 warm until 104
	`)
	script(t, ahead+`
		# what is kept stays, booted behind that time
		func 0 0 2 1 0 1
		till 120
		booted 6
		boxes > 6 0 0 warm pinned
		ticks 50
	`)
	script(t, ahead+`
		# gone before it has booted
		broke 6
		booted 6 > refused none
		call 0 > boot 7 0 0, cold 7
		booted 7
		boxes > 7 0 0 busy
	`)
}

// A window may be of the idle times that are too long to be counted one by one.
func TestAheadByWhatComesNext(t *testing.T) {
	script(t, `
		account 0 9 99 0
		func 0 0 2 1 0 0
		host 0 9
		learn 0 300 4
		window 0 > cast 255 345
		now > 1200
		boots 0 > 1455
		till 1454
		tick > boot 6 0 0, ok
		booted 6
		ends 6 > 1545
		till 1544
		tick > kill 6 0 0, ok
	`)
	// The last ones in their order: 250, 260, 270, 280, and next 290.
	script(t, `
		account 0 9 99 0
		func 0 0 2 1 0 0
		host 0 9
		learn 0 250 1
		ticks 260 > kill 2 0 0, ok
		learn 0 0 0
		ticks 270 > kill 3 0 0, ok
		learn 0 0 0
		ticks 280 > kill 4 0 0, ok
		learn 0 0 0
		window 0 > cast 246 334
		boots 0 > 1306
	`)
}
