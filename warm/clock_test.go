package warm

import "testing"

// P9.2. By the exported functions alone nothing is ever worth less than Clock, so Clock is set by hand here.
func TestClockDoesNotFallWhereWhatGoesIsWorthLess(t *testing.T) {
	c := New()
	c.Set(1, 1, 5, 1)
	c.Set(2, 1, 9, 1)
	c.Set(3, 1, 10, 1)
	c.clock = 9
	for _, want := range []struct {
		id    int
		clock uint64
	}{{1, 9}, {2, 9}, {3, 10}} {
		if id, ok := c.Evict(); id != want.id || !ok || c.Clock() != want.clock {
			t.Errorf("Evict is %d, %v, Clock %d, want %d, %d", id, ok, c.Clock(), want.id, want.clock)
		}
	}
}
