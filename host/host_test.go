package host_test

import (
	"fmt"
	"math"
	"math/rand"
	"sort"
	"testing"

	"greenhouse/api"
	"greenhouse/host"
)

// fit is what Fit tells of one amount.
type fit struct {
	h  int
	ok bool
}

// what is all that hosts tell by calls that turn nothing: of each number that may be, of the two beside them, and of each amount that is some host's Free, one more, one less, and of the ends.
type what struct {
	there, up [api.MaxHosts + 2]bool
	free      [api.MaxHosts + 2]int
	fits      [3*(api.MaxHosts+2) + 5]fit
}

// tell asks for all of it.
func tell(s *host.Hosts) what {
	var w what
	amounts := []int{-1, 0, 1, api.MaxMem, api.MaxMem + 1}
	for i := range w.free {
		h := i - 1
		w.there[i], w.up[i], w.free[i] = s.There(h), s.Up(h), s.Free(h)
		amounts = append(amounts, w.free[i]-1, w.free[i], w.free[i]+1)
	}
	for i, mem := range amounts {
		w.fits[i].h, w.fits[i].ok = s.Fit(mem)
	}
	return w
}

// errs sees that a call answers that, and, if it is an error, that nothing turned.
func errs(t *testing.T, s *host.Hosts, name string, call func() api.Errno, want api.Errno) {
	t.Helper()
	was := tell(s)
	got := call()
	if got != want {
		t.Fatalf("%s is %q, want %q", name, got.Word(), want.Word())
	}
	if got != api.OK && tell(s) != was {
		t.Fatalf("%s is %q, and turned something", name, got.Word())
	}
}

func add(t *testing.T, s *host.Hosts, h, size int, want api.Errno) {
	t.Helper()
	errs(t, s, fmt.Sprintf("Add(%d, %d)", h, size), func() api.Errno { return s.Add(h, size) }, want)
}

func drain(t *testing.T, s *host.Hosts, h int, want api.Errno) {
	t.Helper()
	errs(t, s, fmt.Sprintf("Drain(%d)", h), func() api.Errno { return s.Drain(h) }, want)
}

func fail(t *testing.T, s *host.Hosts, h int, want api.Errno) {
	t.Helper()
	errs(t, s, fmt.Sprintf("Fail(%d)", h), func() api.Errno { return s.Fail(h) }, want)
}

// done sees that a call tells that, and, if it is false, that nothing turned.
func done(t *testing.T, s *host.Hosts, name string, call func() bool, want bool) {
	t.Helper()
	was := tell(s)
	got := call()
	if got != want {
		t.Fatalf("%s is %v", name, got)
	}
	if !got && tell(s) != was {
		t.Fatalf("%s is false, and turned something", name)
	}
}

func take(t *testing.T, s *host.Hosts, h, mem int, want bool) {
	t.Helper()
	done(t, s, fmt.Sprintf("Take(%d, %d)", h, mem), func() bool { return s.Take(h, mem) }, want)
}

func give(t *testing.T, s *host.Hosts, h, mem int, want bool) {
	t.Helper()
	done(t, s, fmt.Sprintf("Give(%d, %d)", h, mem), func() bool { return s.Give(h, mem) }, want)
}

// up sees that something may come to a host, and what is free of it.
func up(t *testing.T, s *host.Hosts, h, free int) {
	t.Helper()
	if !s.There(h) || !s.Up(h) || s.Free(h) != free {
		t.Fatalf("of %d There is %v, Up %v, Free %d, want one that is up with %d", h, s.There(h), s.Up(h), s.Free(h), free)
	}
}

// drains sees that a host is there, and nothing may come to it.
func drains(t *testing.T, s *host.Hosts, h, free int) {
	t.Helper()
	if !s.There(h) || s.Up(h) || s.Free(h) != free {
		t.Fatalf("of %d There is %v, Up %v, Free %d, want one that drains with %d", h, s.There(h), s.Up(h), s.Free(h), free)
	}
}

// gone sees that a host isn't there, and that nothing is to be had of it.
func gone(t *testing.T, s *host.Hosts, h int) {
	t.Helper()
	if s.There(h) || s.Up(h) || s.Free(h) != 0 {
		t.Fatalf("of %d There is %v, Up %v, Free %d, want none", h, s.There(h), s.Up(h), s.Free(h))
	}
	drain(t, s, h, api.ErrNone)
	fail(t, s, h, api.ErrNone)
	for _, mem := range ends {
		take(t, s, h, mem, false)
		give(t, s, h, mem, false)
	}
}

// fits sees which host so much fits, and that asking turns nothing.
func fits(t *testing.T, s *host.Hosts, mem, want int) {
	t.Helper()
	for range 2 {
		if h, ok := s.Fit(mem); h != want || !ok {
			t.Fatalf("Fit(%d) is %d, %v, want %d", mem, h, ok, want)
		}
	}
}

// fitsNone sees that so much fits none.
func fitsNone(t *testing.T, s *host.Hosts, mem int) {
	t.Helper()
	if h, ok := s.Fit(mem); h != 0 || ok {
		t.Fatalf("Fit(%d) is %d, %v, want 0, false", mem, h, ok)
	}
}

// ends are amounts about which the chapter has something to say, and the ends of an int.
var ends = []int{math.MinInt, math.MinInt + 1, -api.MaxMem, -1, 0, 1, api.MaxMem, api.MaxMem + 1, math.MaxInt - 1, math.MaxInt}

// never are numbers that no host has.
var never = []int{math.MinInt, math.MinInt + 1, -api.MaxHosts, -2, -1, api.MaxHosts, api.MaxHosts + 1, 2 * api.MaxHosts, 1 << 32, 1<<32 + 1, math.MaxInt}

// of is hosts of these sizes, from 0 on.
func of(t *testing.T, sizes ...int) *host.Hosts {
	t.Helper()
	s := host.New()
	for h, size := range sizes {
		add(t, s, h, size, api.OK)
	}
	return s
}

// P13.1

func TestNew(t *testing.T) {
	s := host.New()
	if tell(s) != (what{}) {
		t.Fatal("new ones tell something")
	}
	for h := range api.MaxHosts {
		gone(t, s, h)
	}
	for _, mem := range ends {
		fitsNone(t, s, mem)
	}
}

func TestAdd(t *testing.T) {
	for _, h := range []int{0, 1, api.MaxHosts / 2, api.MaxHosts - 2, api.MaxHosts - 1} {
		for _, size := range []int{1, 2, 8, api.MaxMem - 1, api.MaxMem} {
			s := host.New()
			add(t, s, h, size, api.OK)
			up(t, s, h, size)
			give(t, s, h, 1, false) // none of it is used
			for other := range api.MaxHosts {
				if other != h {
					gone(t, s, other)
				}
			}
		}
	}
}

func TestAddAllHosts(t *testing.T) {
	s := host.New()
	for h := range api.MaxHosts {
		add(t, s, h, 100+h, api.OK)
	}
	for h := range api.MaxHosts {
		up(t, s, h, 100+h)
		add(t, s, h, 1, api.ErrState)
	}
	for _, h := range never {
		add(t, s, h, 1, api.ErrArg)
	}
}

func TestAddOutOfBounds(t *testing.T) {
	for _, s := range []*host.Hosts{host.New(), of(t, 5, 7)} {
		for _, h := range never {
			for _, size := range []int{math.MinInt, -1, 0, 1, api.MaxMem, api.MaxMem + 1, math.MaxInt} {
				add(t, s, h, size, api.ErrArg)
			}
		}
		for _, h := range []int{0, 2, api.MaxHosts - 1} {
			for _, size := range []int{math.MinInt, -api.MaxMem, -1, 0, api.MaxMem + 1, math.MaxInt} {
				add(t, s, h, size, api.ErrArg)
			}
		}
	}
}

// ErrArg comes ahead of ErrState, and ErrNone ahead of it too.
func TestTheFirstError(t *testing.T) {
	s := of(t, 8, 8)
	take(t, s, 1, 3, true)
	drain(t, s, 1, api.OK)
	for _, h := range []int{0, 1} {
		add(t, s, h, 0, api.ErrArg)
		add(t, s, h, -1, api.ErrArg)
		add(t, s, h, api.MaxMem+1, api.ErrArg)
		add(t, s, h, 1, api.ErrState)
		add(t, s, h, api.MaxMem, api.ErrState)
	}
	drain(t, s, 1, api.ErrState)
	fail(t, s, 1, api.OK)
	drain(t, s, 1, api.ErrNone)
	up(t, s, 0, 8)
}

func TestAddAgain(t *testing.T) {
	s := host.New()
	add(t, s, 4, 8, api.OK)
	take(t, s, 4, 3, true)
	add(t, s, 4, 8, api.ErrState) // while it is there
	add(t, s, 4, 9, api.ErrState)
	up(t, s, 4, 5)

	drain(t, s, 4, api.OK)
	add(t, s, 4, 9, api.ErrState) // while it drains
	drains(t, s, 4, 5)
	give(t, s, 4, 3, true)
	gone(t, s, 4)
	add(t, s, 4, 9, api.OK) // behind the Give that left none
	up(t, s, 4, 9)
	give(t, s, 4, 1, false)

	drain(t, s, 4, api.OK)
	gone(t, s, 4)
	add(t, s, 4, 10, api.OK) // behind a Drain of an empty one
	up(t, s, 4, 10)

	take(t, s, 4, 10, true)
	fail(t, s, 4, api.OK)
	gone(t, s, 4)
	add(t, s, 4, 11, api.OK) // behind a Fail
	up(t, s, 4, 11)
	give(t, s, 4, 1, false)

	take(t, s, 4, 2, true)
	drain(t, s, 4, api.OK)
	fail(t, s, 4, api.OK)
	gone(t, s, 4)
	add(t, s, 4, 12, api.OK) // behind a Fail of one that drained
	up(t, s, 4, 12)
	take(t, s, 4, 12, true)
	give(t, s, 4, 12, true)
	up(t, s, 4, 12) // it doesn't go: it drains no more
}

func TestDrainOfAnEmptyOne(t *testing.T) {
	for _, h := range []int{0, 7, api.MaxHosts - 1} {
		s := host.New()
		add(t, s, h, 8, api.OK)
		drain(t, s, h, api.OK)
		gone(t, s, h)
	}
	s := of(t, 8)
	take(t, s, 0, 0, true) // nothing is used by that
	drain(t, s, 0, api.OK)
	gone(t, s, 0)
	s = of(t, 8)
	take(t, s, 0, 8, true)
	give(t, s, 0, 5, true)
	give(t, s, 0, 3, true)
	up(t, s, 0, 8) // a Give that leaves none of one that doesn't drain
	drain(t, s, 0, api.OK)
	gone(t, s, 0)
}

func TestDrainOfOneThatIsUsed(t *testing.T) {
	s := of(t, 8)
	take(t, s, 0, 5, true)
	drain(t, s, 0, api.OK)
	drains(t, s, 0, 3)
	drain(t, s, 0, api.ErrState)
	drains(t, s, 0, 3)
	give(t, s, 0, 4, true)
	drains(t, s, 0, 7)
	drain(t, s, 0, api.ErrState)
	give(t, s, 0, 0, true)
	drains(t, s, 0, 7)
	give(t, s, 0, 2, false)
	drains(t, s, 0, 7)
	give(t, s, 0, 1, true)
	gone(t, s, 0)

	s = of(t, 1)
	take(t, s, 0, 1, true)
	drain(t, s, 0, api.OK)
	drains(t, s, 0, 0)
	give(t, s, 0, 1, true)
	gone(t, s, 0)
}

func TestFail(t *testing.T) {
	s := of(t, 8, 8, 8, 8)
	take(t, s, 1, 8, true)
	take(t, s, 2, 3, true)
	drain(t, s, 2, api.OK)
	for _, h := range []int{0, 1, 2} { // an empty one, a full one, one that drains
		fail(t, s, h, api.OK)
		gone(t, s, h)
		fail(t, s, h, api.ErrNone)
	}
	up(t, s, 3, 8)
}

func TestNumbersThatNoneHas(t *testing.T) {
	s := of(t, 8, 4)
	take(t, s, 0, 2, true)
	for _, h := range never {
		gone(t, s, h)
	}
	for _, h := range []int{2, 3, api.MaxHosts - 1} {
		gone(t, s, h)
	}
	up(t, s, 0, 6)
	up(t, s, 1, 4)
}

// P13.2

func TestThereUpFree(t *testing.T) {
	s := of(t, 8, api.MaxMem)
	up(t, s, 0, 8)
	up(t, s, 1, api.MaxMem)
	take(t, s, 0, 8, true)
	up(t, s, 0, 0) // a full one is up
	take(t, s, 1, 1, true)
	drain(t, s, 1, api.OK)
	drains(t, s, 1, api.MaxMem-1) // Free is told of one that drains
	if w := tell(s); w != tell(s) {
		t.Fatal("asking turns something")
	}
}

func TestTake(t *testing.T) {
	s := of(t, 8)
	take(t, s, 0, 0, true)
	up(t, s, 0, 8)
	take(t, s, 0, 9, false)
	take(t, s, 0, -1, false)
	take(t, s, 0, 3, true)
	up(t, s, 0, 5)
	take(t, s, 0, 6, false)
	take(t, s, 0, 5, true) // just what is free
	up(t, s, 0, 0)
	take(t, s, 0, 1, false)
	take(t, s, 0, 0, true) // 0 of a full one
	up(t, s, 0, 0)
	for _, mem := range ends {
		take(t, s, 0, mem, mem == 0)
	}
	up(t, s, 0, 0)
}

func TestTakeOfOneThatDrains(t *testing.T) {
	s := of(t, 8)
	take(t, s, 0, 3, true)
	drain(t, s, 0, api.OK)
	for _, mem := range append([]int{2, 5, 6}, ends...) {
		take(t, s, 0, mem, false)
		drains(t, s, 0, 5)
	}
}

func TestTakeAll(t *testing.T) {
	for _, size := range []int{1, 2, api.MaxMem} {
		s := of(t, size)
		take(t, s, 0, size+1, false)
		take(t, s, 0, size, true)
		up(t, s, 0, 0)
		give(t, s, 0, size+1, false)
		give(t, s, 0, size, true)
		up(t, s, 0, size)
	}
	s := of(t, api.MaxMem)
	for n := range api.MaxMem {
		if !s.Take(0, 1) || s.Free(0) != api.MaxMem-n-1 {
			t.Fatalf("Take %d of 1 is false, or %d are free", n, s.Free(0))
		}
	}
	take(t, s, 0, 1, false)
}

func TestGive(t *testing.T) {
	s := of(t, 8)
	give(t, s, 0, 0, true) // 0 of one of which nothing is used
	up(t, s, 0, 8)
	give(t, s, 0, 1, false)
	take(t, s, 0, 6, true)
	give(t, s, 0, 7, false)
	give(t, s, 0, 8, false)
	give(t, s, 0, -1, false)
	up(t, s, 0, 2)
	give(t, s, 0, 0, true)
	up(t, s, 0, 2)
	give(t, s, 0, 2, true)
	up(t, s, 0, 4)
	give(t, s, 0, 5, false)
	give(t, s, 0, 4, true) // just what is used
	up(t, s, 0, 8)
	give(t, s, 0, 1, false)
	for _, mem := range ends {
		give(t, s, 0, mem, mem == 0)
	}
	up(t, s, 0, 8)
}

func TestGiveOfOneThatDrains(t *testing.T) {
	s := of(t, 8)
	take(t, s, 0, 6, true)
	drain(t, s, 0, api.OK)
	for _, mem := range []int{math.MinInt, -1, 7, 8, 9, math.MaxInt} {
		give(t, s, 0, mem, false)
		drains(t, s, 0, 2)
	}
	give(t, s, 0, 6, true)
	gone(t, s, 0)
}

func TestFitExample(t *testing.T) {
	s := of(t, 8, 4)
	fits(t, s, 3, 1)
}

func TestFit(t *testing.T) {
	s := of(t, 8, 4, 6)
	fits(t, s, 0, 1)
	fits(t, s, 3, 1)
	fits(t, s, 4, 1) // just what is free
	fits(t, s, 5, 2)
	fits(t, s, 6, 2)
	fits(t, s, 7, 0)
	fits(t, s, 8, 0)
	fitsNone(t, s, 9)
	fitsNone(t, s, math.MaxInt)
	fitsNone(t, s, -1)
	fitsNone(t, s, math.MinInt)
	take(t, s, 1, 4, true)
	fits(t, s, 0, 1) // 0 goes to a full one
	fits(t, s, 1, 2)
	take(t, s, 0, 5, true)
	fits(t, s, 3, 0) // by what is free, not by size
	fits(t, s, 4, 2)
	give(t, s, 0, 5, true)
	fits(t, s, 7, 0)
}

func TestFitOfSeveralTheFirst(t *testing.T) {
	s := host.New()
	for _, h := range []int{api.MaxHosts - 1, 9, 3, 20} {
		add(t, s, h, 6, api.OK)
	}
	add(t, s, 0, 7, api.OK)
	for _, mem := range []int{0, 1, 6} {
		fits(t, s, mem, 3)
	}
	fits(t, s, 7, 0)
	take(t, s, 3, 1, true)
	fits(t, s, 5, 3)
	fits(t, s, 6, 9)
	take(t, s, 0, 1, true)
	fits(t, s, 6, 0) // as much of a larger one is as much
	fail(t, s, 0, api.OK)
	fail(t, s, 9, api.OK)
	fits(t, s, 6, 20)
	fail(t, s, 20, api.OK)
	fits(t, s, 6, api.MaxHosts-1)
	fail(t, s, api.MaxHosts-1, api.OK)
	fitsNone(t, s, 6)
	fits(t, s, 5, 3)
}

func TestFitPassesThoseThatDrain(t *testing.T) {
	s := of(t, 8, 4, 6)
	take(t, s, 1, 1, true)
	drain(t, s, 1, api.OK)
	fits(t, s, 0, 2)
	fits(t, s, 3, 2)
	take(t, s, 2, 1, true)
	drain(t, s, 2, api.OK)
	fits(t, s, 3, 0)
	take(t, s, 0, 1, true)
	drain(t, s, 0, api.OK)
	for _, mem := range ends {
		fitsNone(t, s, mem)
	}
	add(t, s, 3, 2, api.OK)
	fits(t, s, 0, 3)
	fits(t, s, 2, 3)
	fitsNone(t, s, 3)
	fail(t, s, 3, api.OK)
	fitsNone(t, s, 0)
}

// What is to be told as none is told so where 0 is a host that is there, and where it isn't.
func TestFitWithoutHostZero(t *testing.T) {
	s := host.New()
	add(t, s, 5, 8, api.OK)
	fits(t, s, 0, 5)
	fits(t, s, 8, 5)
	fitsNone(t, s, 9)
	add(t, s, 6, 4, api.OK)
	fits(t, s, 4, 6)
	fits(t, s, 5, 5)
}

// What fits may be taken.
func TestTakeOfWhatFits(t *testing.T) {
	s := of(t, 8, 4, 6)
	for _, w := range []struct{ mem, h int }{{4, 1}, {5, 2}, {1, 2}, {3, 0}, {5, 0}} {
		fits(t, s, w.mem, w.h)
		take(t, s, w.h, w.mem, true)
	}
	fitsNone(t, s, 1)
	fits(t, s, 0, 0)
}

func TestHostsApart(t *testing.T) {
	s := of(t, 8, 8, 8)
	take(t, s, 1, 3, true)
	up(t, s, 0, 8)
	up(t, s, 2, 8)
	give(t, s, 0, 1, false)
	give(t, s, 2, 1, false)
	take(t, s, 2, 2, true)
	drain(t, s, 1, api.OK)
	up(t, s, 0, 8)
	up(t, s, 2, 6)
	give(t, s, 1, 3, true)
	up(t, s, 0, 8)
	up(t, s, 2, 6)
	fail(t, s, 0, api.OK)
	gone(t, s, 1)
	up(t, s, 2, 6)
	add(t, s, 0, 5, api.OK)
	up(t, s, 2, 6)
	gone(t, s, 1)
}

func TestTwoApart(t *testing.T) {
	a, b := host.New(), host.New()
	add(t, a, 0, 8, api.OK)
	take(t, a, 0, 3, true)
	if tell(b) != (what{}) {
		t.Fatal("what is done to one turns another")
	}
	add(t, b, 0, 9, api.OK)
	drain(t, b, 0, api.OK)
	up(t, a, 0, 5)
	gone(t, b, 0)
}

// Hosts that nobody made are none.
func TestBare(t *testing.T) {
	var s host.Hosts
	for _, h := range append([]int{0, 1, api.MaxHosts - 1}, never...) {
		gone(t, &s, h)
	}
	fitsNone(t, &s, 0)
	add(t, &s, 0, 8, api.OK)
	up(t, &s, 0, 8)
}

// model is hosts by the chapter's words: those that are there, those of them that drain, and what each has and has used.
type model struct {
	size, used map[int]int
	drains     map[int]bool
}

func newModel() *model {
	return &model{size: map[int]int{}, used: map[int]int{}, drains: map[int]bool{}}
}

func (m *model) there(h int) bool { return m.size[h] > 0 }

func (m *model) up(h int) bool { return m.there(h) && !m.drains[h] }

func (m *model) free(h int) int { return m.size[h] - m.used[h] }

func (m *model) away(h int) {
	delete(m.size, h)
	delete(m.used, h)
	delete(m.drains, h)
}

func (m *model) goIfEmpty(h int) {
	if m.drains[h] && m.used[h] == 0 {
		m.away(h)
	}
}

func (m *model) add(h, size int) api.Errno {
	if h < 0 || h > 31 || size < 1 || size > 4096 {
		return api.ErrArg
	}
	if m.there(h) {
		return api.ErrState
	}
	m.size[h] = size
	return api.OK
}

func (m *model) drain(h int) api.Errno {
	if !m.there(h) {
		return api.ErrNone
	}
	if m.drains[h] {
		return api.ErrState
	}
	m.drains[h] = true
	m.goIfEmpty(h)
	return api.OK
}

func (m *model) fail(h int) api.Errno {
	if !m.there(h) {
		return api.ErrNone
	}
	m.away(h)
	return api.OK
}

func (m *model) take(h, mem int) bool {
	if !m.up(h) || mem < 0 || mem > m.free(h) {
		return false
	}
	m.used[h] += mem
	return true
}

func (m *model) give(h, mem int) bool {
	if !m.there(h) || mem < 0 || mem > m.used[h] {
		return false
	}
	m.used[h] -= mem
	m.goIfEmpty(h)
	return true
}

// fit puts all that have room in order, by Free, and then by number.
func (m *model) fit(mem int) (int, bool) {
	var room []int
	for h := range m.size {
		if m.up(h) && mem >= 0 && m.free(h) >= mem {
			room = append(room, h)
		}
	}
	if len(room) == 0 {
		return 0, false
	}
	sort.Slice(room, func(i, j int) bool {
		if m.free(room[i]) != m.free(room[j]) {
			return m.free(room[i]) < m.free(room[j])
		}
		return room[i] < room[j]
	})
	return room[0], true
}

// both is hosts, and their model.
type both struct {
	s *host.Hosts
	m *model
}

// do lets one thing be done to both, and holds what they answer against each other.
func (b both) do(t *testing.T, kind, h, mem int) {
	t.Helper()
	var got, want any
	switch kind {
	case 0:
		got, want = b.s.Add(h, mem), b.m.add(h, mem)
	case 1:
		got, want = b.s.Drain(h), b.m.drain(h)
	case 2:
		got, want = b.s.Fail(h), b.m.fail(h)
	case 3:
		got, want = b.s.Take(h, mem), b.m.take(h, mem)
	case 4:
		got, want = b.s.Give(h, mem), b.m.give(h, mem)
	}
	if got != want {
		t.Fatalf("call %d of %d, %d is %v, want %v", kind, h, mem, got, want)
	}
}

// agree holds what the two tell of a host against each other.
func (b both) agree(t *testing.T, h int) {
	t.Helper()
	if b.s.There(h) != b.m.there(h) || b.s.Up(h) != b.m.up(h) || b.s.Free(h) != b.m.free(h) {
		t.Fatalf("of %d There is %v, Up %v, Free %d, want %v, %v, %d", h, b.s.There(h), b.s.Up(h), b.s.Free(h), b.m.there(h), b.m.up(h), b.m.free(h))
	}
}

// fit holds what the two tell of an amount against each other.
func (b both) fit(t *testing.T, mem int) {
	t.Helper()
	h, ok := b.s.Fit(mem)
	if wantH, wantOK := b.m.fit(mem); h != wantH || ok != wantOK {
		t.Fatalf("Fit(%d) is %d, %v, want %d, %v", mem, h, ok, wantH, wantOK)
	}
}

// Every row of five things, of two hosts and few amounts.
func TestAllShortRows(t *testing.T) {
	var things [][3]int
	for h := range 2 {
		things = append(things, [3]int{0, h, 2 - h}, [3]int{1, h, 0}, [3]int{2, h, 0}, [3]int{3, h, 1}, [3]int{4, h, 1}, [3]int{3, h, 2 - h})
	}
	const long = 5
	rows := 1
	for range long {
		rows *= len(things)
	}
	for row := range rows {
		b := both{host.New(), newModel()}
		rest := row
		for range long {
			x := things[rest%len(things)]
			rest /= len(things)
			b.do(t, x[0], x[1], x[2])
		}
		for h := range 3 {
			b.agree(t, h)
		}
		for mem := range 3 {
			b.fit(t, mem)
		}
	}
}

func TestRandom(t *testing.T) {
	r := rand.New(rand.NewSource(13))
	for range 60 {
		b := both{host.New(), newModel()}
		numbers := 1 + r.Intn(api.MaxHosts+2) // few hosts, or all, and those beside them
		most := []int{3, 12, 100, api.MaxMem + 2}[r.Intn(4)]
		for range 400 {
			kind := []int{0, 0, 1, 2, 3, 3, 3, 3, 4, 4, 4, 4}[r.Intn(12)]
			b.do(t, kind, r.Intn(numbers)-1, r.Intn(most+2)-1)
			b.fit(t, r.Intn(most+2)-1)
			for h := -1; h <= api.MaxHosts; h++ {
				b.agree(t, h)
			}
		}
	}
}
