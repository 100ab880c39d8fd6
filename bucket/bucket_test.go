package bucket_test

import (
	"fmt"
	"math"
	"math/rand"
	"testing"

	"greenhouse/bucket"
)

// holds sees that there are so many tokens.
func holds(t *testing.T, name string, b *bucket.Bucket, want int) {
	t.Helper()
	if got := b.Tokens(); got != want {
		t.Fatalf("%s: Tokens is %d, want %d", name, got, want)
	}
}

// takes sees that so many Takes are true and no more; none is left then.
func takes(t *testing.T, name string, b *bucket.Bucket, want int) {
	t.Helper()
	for i := range want {
		holds(t, name, b, want-i)
		if !b.Take() {
			t.Fatalf("%s: Take %d of %d is false", name, i+1, want)
		}
	}
	for range 3 {
		holds(t, name, b, 0)
		if b.Take() {
			t.Fatalf("%s: Take is true, of none", name)
		}
	}
	holds(t, name, b, 0)
}

// drained takes till a Take is false, and is how many were true; some bound, so that one that never is false doesn't go on forever.
func drained(b *bucket.Bucket) int {
	for n := range 5000 {
		if !b.Take() {
			return n
		}
	}
	return 5000
}

// of is a bucket with so many tokens.
func of(t *testing.T, size, refill, tokens int) *bucket.Bucket {
	t.Helper()
	b := bucket.New(size, refill)
	for range size - tokens {
		b.Take()
	}
	holds(t, fmt.Sprint("of ", size), b, tokens)
	return b
}

// counted is numbers, and what they count as.
func counted() map[int]int {
	return map[int]int{
		math.MinInt: 0, -1001: 0, -1000: 0, -2: 0, -1: 0,
		0: 0, 1: 1, 2: 2, 500: 500, 999: 999, 1000: 1000,
		1001: 1000, 1002: 1000, 2000: 1000, 1 << 32: 1000, math.MaxInt: 1000,
	}
}

// P10.1

func TestTwoWithOneATick(t *testing.T) {
	b := bucket.New(2, 1)
	holds(t, "new", b, 2)
	if !b.Take() || !b.Take() || b.Take() {
		t.Error("two Takes are true, the third isn't")
	}
	b.Tick()
	holds(t, "behind a Tick", b, 1)
	if !b.Take() || b.Take() {
		t.Error("behind a Tick one Take is true")
	}
}

func TestNewWithinBounds(t *testing.T) {
	for size, tokens := range counted() {
		for refill, come := range counted() {
			name := fmt.Sprint("New of ", size, ", ", refill)
			b := bucket.New(size, refill)
			takes(t, name, b, tokens)
			b.Tick()
			takes(t, name+", a Tick", b, min(come, tokens))
			for range 3 {
				b.Tick()
			}
			holds(t, name+", three Ticks", b, min(3*come, tokens))
		}
	}
}

func TestSetWithinBounds(t *testing.T) {
	for size, most := range counted() {
		for refill, come := range counted() {
			name := fmt.Sprint("Set of ", size, ", ", refill)
			b := bucket.New(700, 3)
			b.Set(size, refill)
			left := min(700, most)
			holds(t, name, b, left)
			b.Tick()
			takes(t, name+", a Tick", b, min(left+come, most))
			b.Tick()
			holds(t, name+", emptied, a Tick", b, min(come, most))
		}
	}
}

func TestSetAgainstTheTokensThatThereAre(t *testing.T) {
	for _, c := range []struct{ size, tokens, anew, want int }{
		{9, 9, 8, 8}, {9, 9, 9, 9}, {9, 9, 10, 9},
		{9, 5, 4, 4}, {9, 5, 5, 5}, {9, 5, 6, 5}, {9, 5, 9, 5}, {9, 5, 10, 5},
		{9, 5, 0, 0}, {9, 5, -1, 0}, {9, 5, 1, 1}, {9, 5, 1000, 5}, {9, 5, 5000, 5},
		{9, 0, 0, 0}, {9, 0, 3, 0}, {9, 0, 1000, 0}, {9, 1, 0, 0}, {9, 1, 1, 1}, {9, 1, 2, 1},
		{1000, 1000, 999, 999}, {1000, 1000, 1000, 1000}, {1000, 1000, 1001, 1000}, {0, 0, 7, 0},
	} {
		name := fmt.Sprintf("%d of %d, Set to %d", c.tokens, c.size, c.anew)
		b := of(t, c.size, 2, c.tokens)
		b.Set(c.anew, 0)
		holds(t, name, b, c.want)
		b.Tick()
		takes(t, name+", a Tick of 0", b, c.want)
	}
}

func TestWhatIsLostIsLost(t *testing.T) {
	b := bucket.New(8, 1)
	b.Set(3, 1)
	b.Set(8, 1)
	holds(t, "lowered and raised", b, 3)
	b.Tick()
	holds(t, "a Tick", b, 4)
	b.Set(0, 1)
	b.Tick()
	holds(t, "a Tick of a size of 0", b, 0)
	b.Set(8, 1)
	takes(t, "raised again", b, 0)
	b.Tick()
	takes(t, "a Tick", b, 1)
}

// Set lets nothing come by itself, and neither fills nor empties; all from now on goes by what was set last.
func TestSetFromNowOn(t *testing.T) {
	b := of(t, 4, 1, 2)
	b.Set(4, 1)
	holds(t, "Set to the same", b, 2)
	b.Set(100, 30)
	holds(t, "Set to more", b, 2)
	for _, want := range []int{32, 62, 92, 100, 100} {
		b.Tick()
		holds(t, "a Tick of 30", b, want)
	}
	b.Set(100, 0)
	b.Take()
	b.Tick()
	holds(t, "a Tick of 0", b, 99)
	b.Set(99, 5)
	b.Tick()
	holds(t, "a Tick of a full one", b, 99)
}

func TestTickUpToTheSize(t *testing.T) {
	for _, c := range []struct{ size, refill, tokens, want int }{
		{10, 4, 10, 10}, {10, 4, 9, 10}, {10, 4, 8, 10}, {10, 4, 7, 10}, {10, 4, 6, 10}, {10, 4, 5, 9}, {10, 4, 0, 4},
		{10, 10, 0, 10}, {10, 11, 0, 10}, {10, 1000, 0, 10}, {10, 9, 0, 9}, {10, 0, 0, 0}, {10, 0, 3, 3}, {10, 0, 10, 10},
		{1, 1, 0, 1}, {1, 1, 1, 1}, {0, 1, 0, 0}, {0, 1000, 0, 0}, {0, 0, 0, 0},
		{1000, 1000, 0, 1000}, {1000, 1000, 999, 1000}, {1000, 999, 0, 999}, {1000, 999, 1, 1000}, {1000, 1, 999, 1000}, {1000, 1, 1000, 1000},
	} {
		b := of(t, c.size, c.refill, c.tokens)
		b.Tick()
		holds(t, fmt.Sprintf("%d of %d, a Tick of %d", c.tokens, c.size, c.refill), b, c.want)
	}
}

// What a full bucket didn't take in doesn't come later, and no Take that was false is owed.
func TestNothingIsOwed(t *testing.T) {
	b := bucket.New(3, 2)
	for range 50 {
		b.Tick()
	}
	takes(t, "behind 50 Ticks", b, 3)
	for range 50 {
		b.Take()
	}
	b.Tick()
	takes(t, "behind 50 Takes of none", b, 2)
	b.Set(3, 0)
	for range 50 {
		b.Tick()
	}
	takes(t, "behind 50 Ticks of 0", b, 0)
}

func TestTwoBucketsApart(t *testing.T) {
	a, b := bucket.New(5, 1), bucket.New(7, 2)
	a.Take()
	a.Take()
	holds(t, "a", a, 3)
	holds(t, "b", b, 7)
	b.Set(2, 0)
	a.Tick()
	holds(t, "a", a, 4)
	holds(t, "b", b, 2)
}

// Of a Bucket that New didn't make only that no call panics is promised.
func TestBare(t *testing.T) {
	var b bucket.Bucket
	takes(t, "bare", &b, 0)
	b.Tick()
	holds(t, "bare, a Tick", &b, 0)
	b.Set(2, 1)
	b.Tick()
	takes(t, "bare, Set, a Tick", &b, 1)
}

// model is a bucket by the chapter's words, token by token.
type model struct {
	size, refill int
	tokens       []struct{}
}

func (m *model) set(size, refill int) {
	m.size, m.refill = size, refill
	for len(m.tokens) > size {
		m.tokens = m.tokens[1:]
	}
}

func (m *model) tick() {
	for range m.refill {
		if len(m.tokens) < m.size {
			m.tokens = append(m.tokens, struct{}{})
		}
	}
}

func (m *model) take() bool {
	if len(m.tokens) == 0 {
		return false
	}
	m.tokens = m.tokens[1:]
	return true
}

func TestAtRandomByTheModel(t *testing.T) {
	for seed := range int64(200) {
		r := rand.New(rand.NewSource(seed))
		most := []int{1, 3, 12, 1000}[seed%4]
		size, refill := r.Intn(most+1), r.Intn(most+1)
		b, m := bucket.New(size, refill), &model{size: size, refill: refill, tokens: make([]struct{}, size)}
		for range 300 {
			switch r.Intn(9) {
			case 0:
				size, refill = r.Intn(most+1), r.Intn(most+1)
				b.Set(size, refill)
				m.set(size, refill)
			case 1, 2:
				b.Tick()
				m.tick()
			default:
				if want := m.take(); b.Take() != want {
					t.Fatalf("seed %d: Take isn't %v", seed, want)
				}
			}
			if b.Tokens() != len(m.tokens) {
				t.Fatalf("seed %d: Tokens is %d, want %d", seed, b.Tokens(), len(m.tokens))
			}
		}
	}
}

// P10.2

// rates is sizes and refills; what they count as is what bounds Takes.
func rates() [][2]int {
	return [][2]int{{0, 0}, {0, 3}, {1, 0}, {1, 1}, {1, 5}, {2, 1}, {3, 2}, {3, 3}, {5, 1}, {7, 4}, {10, 1000}, {40, 7}}
}

// bounded sees, of a row of which each is how many Takes were true behind as many Ticks as its place, that within any Ticks side by side there are never too many.
func bounded(t *testing.T, name string, row []int, size, refill int) {
	t.Helper()
	for from := range row {
		sum := 0
		for w, n := range row[from:] {
			sum += n
			if sum > size+refill*w {
				t.Fatalf("%s: %d Takes within %d Ticks from %d on, want %d at most", name, sum, w, from, size+refill*w)
			}
		}
	}
}

func TestTakesWithinTicks(t *testing.T) {
	for _, rate := range rates() {
		size, refill := rate[0], rate[1]
		for seed := range int64(40) {
			r := rand.New(rand.NewSource(seed))
			b := bucket.New(size, refill)
			row := make([]int, 60)
			// Some rest for long and come all at once then, some come all the time.
			rest := r.Intn(10)
			for i := range row {
				if i > 0 {
					b.Tick()
				}
				if r.Intn(10) < rest {
					continue
				}
				for range r.Intn(2*size + 3) {
					if b.Take() {
						row[i]++
					}
				}
			}
			bounded(t, fmt.Sprint("rate ", rate, ", seed ", seed), row, size, refill)
		}
	}
}

// Who takes all there is has just the bound, as long as all that comes has room.
func TestTheBoundIsReached(t *testing.T) {
	for _, rate := range rates() {
		size, refill := rate[0], min(rate[0], rate[1])
		b := bucket.New(rate[0], rate[1])
		sum := 0
		for w := range 30 {
			if w > 0 {
				b.Tick()
			}
			sum += drained(b)
			if want := size + refill*w; sum != want {
				t.Fatalf("rate %v: %d Takes within %d Ticks, want %d", rate, sum, w, want)
			}
		}
	}
}

// However long one rested, no more than size are taken at once.
func TestRestIsNotSavedUp(t *testing.T) {
	for _, rate := range rates() {
		b := bucket.New(rate[0], rate[1])
		drained(b)
		for range 2000 {
			b.Tick()
		}
		want := rate[0]
		if rate[1] == 0 {
			want = 0
		}
		takes(t, fmt.Sprint("rate ", rate), b, want)
	}
}
