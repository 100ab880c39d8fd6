package event_test

import (
	"bytes"
	"encoding/binary"
	"fmt"
	"math"
	"math/rand"
	"reflect"
	"slices"
	"testing"

	"greenhouse/api"
	"greenhouse/event"
)

const most = event.Most

// names is all numbers of an event.
var names = []string{"N", "Limit", "Size", "Refill", "Account", "Mem", "Cost", "Reserved", "Keep"}

// field is the number of such a name.
func field(e *event.Event, name string) *int {
	switch name {
	case "N":
		return &e.N
	case "Limit":
		return &e.Limit
	case "Size":
		return &e.Size
	case "Refill":
		return &e.Refill
	case "Account":
		return &e.Account
	case "Mem":
		return &e.Mem
	case "Cost":
		return &e.Cost
	case "Reserved":
		return &e.Reserved
	case "Keep":
		return &e.Keep
	}
	panic("no such number: " + name)
}

// kind is a Kind, the first byte of its events, and the names of its numbers, in order.
type kind struct {
	name  string
	k     event.Kind
	byte  byte
	names []string
}

// kinds is the chapter's words about each Kind.
var kinds = []kind{
	{"Tick", event.Tick, 0, nil},
	{"Account", event.Account, 1, []string{"N", "Limit", "Size", "Refill"}},
	{"Func", event.Func, 2, []string{"N", "Account", "Mem", "Cost", "Reserved", "Keep"}},
	{"Host", event.Host, 3, []string{"N", "Size"}},
	{"Drain", event.Drain, 4, []string{"N"}},
	{"Fail", event.Fail, 5, []string{"N"}},
	{"Call", event.Call, 6, []string{"N"}},
	{"Booted", event.Booted, 7, []string{"N"}},
	{"Broke", event.Broke, 8, []string{"N"}},
	{"Done", event.Done, 9, []string{"N"}},
}

// event is one of that Kind, with those numbers.
func (k kind) event(list []int) event.Event {
	e := event.Event{Kind: k.k}
	for i, n := range list {
		*field(&e, k.names[i]) = n
	}
	return e
}

// all is as many times the same number as the Kind has numbers.
func (k kind) all(n int) []int { return slices.Repeat([]int{n}, len(k.names)) }

// rows is numbers for an event of that Kind: all the same, each of another size, and each alone at the bounds.
func (k kind) rows() [][]int {
	list := [][]int{k.all(0), k.all(1), k.all(127), k.all(128), k.all(most)}
	sizes := []int{most, 1, 1 << 21, 300, 0, 1<<14 - 1}
	list = append(list, sizes[:len(k.names)])
	for i := range k.names {
		for _, n := range []int{0, 1, 127, 128, 1<<14 - 1, 1 << 14, 1<<28 - 1, 1 << 28, most - 1, most} {
			row := k.all(7)
			row[i] = n
			list = append(list, row)
		}
	}
	return list
}

// written is the bytes of the Kind and those numbers, by the library's way to write such.
func (k kind) written(list []int) []byte {
	b := []byte{k.byte}
	for _, n := range list {
		b = binary.AppendUvarint(b, uint64(n))
	}
	return b
}

// right sees that an event is Right, or isn't.
func right(t *testing.T, e event.Event, want bool) {
	t.Helper()
	if got := e.Right(); got != want {
		t.Errorf("Right of %+v is %v", e, got)
	}
}

// P16.1

func TestKindsAreNumberedInOrder(t *testing.T) {
	for i, k := range kinds {
		if int(k.k) != i {
			t.Errorf("%s is %d, want %d", k.name, k.k, i)
		}
	}
}

func TestMost(t *testing.T) {
	if most != 2147483647 {
		t.Errorf("Most is %d", most)
	}
}

func TestEventsOfEachKindAreRight(t *testing.T) {
	for _, k := range kinds {
		for _, row := range k.rows() {
			right(t, k.event(row), true)
		}
	}
}

func TestBoundsOfEachNumber(t *testing.T) {
	for _, k := range kinds {
		for i := range k.names {
			for _, c := range []struct {
				n    int
				want bool
			}{{math.MinInt, false}, {-most - 1, false}, {-most, false}, {-1, false}, {0, true}, {1, true}, {most - 1, true}, {most, true}, {most + 1, false}, {1<<32 + 1, false}, {math.MaxInt, false}} {
				for _, others := range []int{0, 5, most} {
					row := k.all(others)
					row[i] = c.n
					right(t, k.event(row), c.want)
				}
			}
		}
	}
}

func TestTwoNumbersThatDoNotMakeUpForEachOther(t *testing.T) {
	for _, k := range kinds {
		for i := 1; i < len(k.names); i++ {
			row := k.all(0)
			row[i-1], row[i] = -1, 1
			right(t, k.event(row), false)
			row[i-1], row[i] = most+1, -1
			right(t, k.event(row), false)
		}
	}
}

func TestNumbersThatAreNotOfTheKind(t *testing.T) {
	for _, k := range kinds {
		for _, name := range names {
			if slices.Contains(k.names, name) {
				continue
			}
			for _, n := range []int{math.MinInt, -1, 1, 5, most, most + 1, math.MaxInt} {
				for _, own := range []int{0, 5, most} {
					e := k.event(k.all(own))
					*field(&e, name) = n
					right(t, e, false)
				}
			}
		}
	}
}

// noKinds is Kinds that there aren't, some of which end as ones that there are.
var noKinds = []event.Kind{math.MinInt, -256, -10, -2, -1, event.Done + 1, event.Done + 2, 16, 127, 128, 256, 256 + 6, 1 << 32, 1<<32 + 6, most, math.MaxInt}

func TestKindsThatThereAreNot(t *testing.T) {
	for _, k := range noKinds {
		right(t, event.Event{Kind: k}, false)
		right(t, event.Event{Kind: k, N: 5}, false)
		right(t, event.Event{Kind: k, N: 1, Limit: 1, Size: 1, Refill: 1}, false)
		right(t, event.Event{Kind: k, N: 1, Account: 1, Mem: 1, Cost: 1, Reserved: 1, Keep: 1}, false)
	}
}

// TestRightOfEachChoiceOfNumbers has each choice of numbers that aren't 0, of each Kind.
func TestRightOfEachChoiceOfNumbers(t *testing.T) {
	for _, k := range kinds {
		for choice := range 1 << len(names) {
			e := event.Event{Kind: k.k}
			want := true
			for i, name := range names {
				if choice>>i&1 == 1 {
					*field(&e, name) = i + 1
					want = want && slices.Contains(k.names, name)
				}
			}
			right(t, e, want)
		}
	}
}

// P16.2

// bytesOf is an event by hand, with its bytes.
type bytesOf struct {
	e event.Event
	b []byte
}

// byHand is each Kind, and numbers of each count of bytes.
func byHand() []bytesOf {
	return []bytesOf{
		{event.Event{}, []byte{0}},
		{event.Event{Kind: event.Account}, []byte{1, 0, 0, 0, 0}},
		{event.Event{Kind: event.Account, N: 1, Limit: 2, Size: 3, Refill: 4}, []byte{1, 1, 2, 3, 4}},
		{event.Event{Kind: event.Account, N: 300, Limit: 127, Size: 128, Refill: most}, []byte{1, 172, 2, 127, 128, 1, 255, 255, 255, 255, 7}},
		{event.Event{Kind: event.Func}, []byte{2, 0, 0, 0, 0, 0, 0}},
		{event.Event{Kind: event.Func, N: 1, Account: 2, Mem: 3, Cost: 4, Reserved: 5, Keep: 6}, []byte{2, 1, 2, 3, 4, 5, 6}},
		{event.Event{Kind: event.Func, N: 16384, Account: 16383, Mem: 4096, Cost: 1000, Keep: 1 << 28}, []byte{2, 128, 128, 1, 255, 127, 128, 32, 232, 7, 0, 128, 128, 128, 128, 1}},
		{event.Event{Kind: event.Host, N: 1, Size: 2}, []byte{3, 1, 2}},
		{event.Event{Kind: event.Host, Size: 200}, []byte{3, 0, 200, 1}},
		{event.Event{Kind: event.Drain, N: 31}, []byte{4, 31}},
		{event.Event{Kind: event.Fail}, []byte{5, 0}},
		{event.Event{Kind: event.Call, N: 5}, []byte{6, 5}},
		{event.Event{Kind: event.Booted, N: 300}, []byte{7, 172, 2}},
		{event.Event{Kind: event.Broke, N: 1 << 21}, []byte{8, 128, 128, 128, 1}},
		{event.Event{Kind: event.Done, N: most}, []byte{9, 255, 255, 255, 255, 7}},
	}
}

// many is events of each Kind with many numbers, and their bytes.
func many() []bytesOf {
	list := byHand()
	for _, k := range kinds {
		for _, row := range k.rows() {
			list = append(list, bytesOf{k.event(row), k.written(row)})
		}
	}
	return list
}

// wrongs is events that aren't Right.
func wrongs() []event.Event {
	var list []event.Event
	for _, k := range noKinds {
		list = append(list, event.Event{Kind: k, N: 5})
	}
	for _, k := range kinds {
		for i, name := range names {
			for _, n := range []int{-1, most + 1, math.MinInt, 1 << 32} {
				e := k.event(k.all(i))
				*field(&e, name) = n
				list = append(list, e)
			}
			if !slices.Contains(k.names, name) {
				e := k.event(k.all(i))
				*field(&e, name) = 1
				list = append(list, e)
			}
		}
	}
	return list
}

func TestPutWritesTheBytesOfAnEvent(t *testing.T) {
	for _, c := range many() {
		if got := event.Put(nil, c.e); !bytes.Equal(got, c.b) {
			t.Errorf("Put(nil, %+v) = %v, want %v", c.e, got, c.b)
		}
	}
}

// aheads is bytes behind which something is put: among them some that are no event, and some that a number would go on behind.
func aheads() [][]byte {
	return [][]byte{nil, {}, {0}, {9}, {6, 5}, {128}, {255, 0, 200}, bytes.Repeat([]byte{130}, 100)}
}

func TestWhatStandsAheadStays(t *testing.T) {
	for _, c := range many() {
		for _, b := range aheads() {
			want := append(bytes.Clone(b), c.b...)
			if got := event.Put(b, c.e); !bytes.Equal(got, want) {
				t.Errorf("Put(%v, %+v) = %v, want %v", b, c.e, got, want)
			}
		}
	}
}

func TestNothingIsPutOfAnEventThatIsNotRight(t *testing.T) {
	for _, e := range wrongs() {
		for _, b := range aheads() {
			if got := event.Put(b, e); !bytes.Equal(got, b) {
				t.Errorf("Put(%v, %+v) = %v", b, e, got)
			}
		}
	}
}

func TestPutNeitherChangesNorKeepsItsBytes(t *testing.T) {
	for _, c := range []bytesOf{{event.Event{Kind: event.Call, N: 5}, []byte{6, 5}}, {event.Event{}, []byte{0}}, {event.Event{Kind: event.Call, N: -1}, nil}, {event.Event{N: 1}, nil}} {
		whole := bytes.Repeat([]byte{77}, 40)
		got := event.Put(whole[:3], c.e)
		if !bytes.Equal(whole, bytes.Repeat([]byte{77}, 40)) {
			t.Errorf("Put of %+v wrote into b, or into the room behind it: %v", c.e, whole)
		}
		for i := range whole {
			whole[i] = 5
		}
		if want := append([]byte{77, 77, 77}, c.b...); !bytes.Equal(got, want) {
			t.Errorf("Put of %+v kept b: %v, want %v", c.e, got, want)
		}
	}
}

func TestAnswersOfPutShareNoMemory(t *testing.T) {
	b := event.Put(nil, event.Event{Kind: event.Call, N: 1})
	one := event.Put(b, event.Event{Kind: event.Call, N: 2})
	two := event.Put(b, event.Event{Kind: event.Done, N: 3})
	wrong := event.Put(b, event.Event{Kind: -1})
	b[1] = 99
	if !bytes.Equal(one, []byte{6, 1, 6, 2}) || !bytes.Equal(two, []byte{6, 1, 9, 3}) || !bytes.Equal(wrong, []byte{6, 1}) {
		t.Errorf("behind the same bytes: %v, %v, %v", one, two, wrong)
	}
}

// gets sees that Get tells that event, of so many bytes.
func gets(t *testing.T, b []byte, want event.Event, size int) {
	t.Helper()
	if e, n, err := event.Get(b); e != want || n != size || err != api.OK {
		t.Errorf("Get(%v) is %+v, %d, %q, want %+v, %d", b, e, n, err.Word(), want, size)
	}
}

// refuses sees that Get tells an error, and nothing else.
func refuses(t *testing.T, b []byte, want api.Errno) {
	t.Helper()
	if e, n, err := event.Get(b); e != (event.Event{}) || n != 0 || err != want {
		t.Errorf("Get(%v) is %+v, %d, %q, want nothing, 0, %q", b, e, n, err.Word(), want.Word())
	}
}

// join is bytes behind bytes, in new memory.
func join(parts ...[]byte) []byte { return bytes.Join(parts, nil) }

func TestGetReadsWhatPutWrote(t *testing.T) {
	for _, c := range many() {
		gets(t, c.b, c.e, len(c.b))
	}
}

func TestGetReadsOneEventAlone(t *testing.T) {
	behind := [][]byte{{0}, {10}, {6, 5}, {128}, {128, 0}, {255}, bytes.Repeat([]byte{255}, 20), make([]byte, 1000), make([]byte, api.MaxBytes+1)}
	for _, c := range many() {
		for _, more := range behind {
			b := join(c.b, more)
			if e, n, err := event.Get(b); e != c.e || n != len(c.b) || err != api.OK {
				t.Errorf("Get of %v, and %d more, is %+v, %d, %q", c.b, len(more), e, n, err.Word())
			}
		}
	}
}

func TestGetOfNoBytes(t *testing.T) {
	refuses(t, nil, api.ErrForm)
	refuses(t, []byte{}, api.ErrForm)
}

// bad is bytes where a number should stand, and which error they are.
type bad struct {
	b   []byte
	err api.Errno
}

// unended is so many bytes none of which is a number's last one, and others behind them.
func unended(n int, last ...byte) []byte {
	return append(bytes.Repeat([]byte{255}, n), last...)
}

// bads is what is no number, at any place of an event.
func bads() []bad {
	list := []bad{
		// cut off
		{nil, api.ErrForm}, {[]byte{128}, api.ErrForm}, {[]byte{255, 255}, api.ErrForm}, {unended(4), api.ErrForm}, {unended(9), api.ErrForm},
		// of a shorter form, with something behind it or not
		{[]byte{128, 0}, api.ErrForm}, {[]byte{133, 0}, api.ErrForm}, {[]byte{133, 0, 0, 0, 0, 0, 0, 0}, api.ErrForm}, {[]byte{133, 128, 0}, api.ErrForm}, {unended(4, 0), api.ErrForm}, {unended(8, 0), api.ErrForm}, {unended(9, 0), api.ErrForm},
		// too long
		{unended(9, 2), api.ErrForm}, {unended(9, 127), api.ErrForm}, {unended(9, 128), api.ErrForm}, {unended(9, 129, 1), api.ErrForm}, {unended(20), api.ErrForm},
	}
	for _, n := range []uint64{most + 1, most + 2, 1<<32 - 1, 1 << 32, 1<<32 + 1, 1<<35 - 1, 1 << 35, math.MaxInt64, 1 << 63, math.MaxUint64} {
		list = append(list, bad{binary.AppendUvarint(nil, n), api.ErrArg})
	}
	return list
}

func TestGetOfBytesThatAreNoKind(t *testing.T) {
	for _, c := range bads() {
		refuses(t, c.b, c.err)
	}
	for _, n := range []uint64{10, 11, 16, 127, 128, 256, 256 + 6, 300, most, 1<<32 + 6, 1<<63 + 6} {
		b := binary.AppendUvarint(nil, n)
		refuses(t, b, api.ErrArg)
		refuses(t, append(b, 5, 5, 5, 5, 5, 5), api.ErrArg)
	}
	// a Kind that there is, longer than it need be
	for _, k := range kinds {
		refuses(t, []byte{k.byte + 128, 0, 5, 5, 5, 5, 5, 5}, api.ErrForm)
		refuses(t, []byte{k.byte + 128}, api.ErrForm)
	}
}

func TestGetOfANumberThatIsNoneAtEachPlace(t *testing.T) {
	for _, k := range kinds {
		for i := range k.names {
			for _, ahead := range []int{0, 5, 300, most} {
				head := k.written(slices.Repeat([]int{ahead}, i))
				for _, c := range bads() {
					refuses(t, join(head, c.b), c.err)
					if cutOff(c.b) {
						continue
					}
					// the numbers behind it would be right
					refuses(t, join(head, c.b, bytes.Repeat([]byte{5}, 6)), c.err)
				}
			}
		}
	}
}

// cutOff tells whether bytes end ahead of a number's last one, so that others behind them could belong to it.
func cutOff(b []byte) bool {
	return len(b) < 10 && (len(b) == 0 || b[len(b)-1] >= 128)
}

// TestTheFirstNumberThatIsNoneCounts has two of them, of different errors, in both orders.
func TestTheFirstNumberThatIsNoneCounts(t *testing.T) {
	long := []byte{133, 0}
	great := binary.AppendUvarint(nil, most+1)
	for _, k := range kinds {
		for i := 1; i < len(k.names); i++ {
			head := k.written(slices.Repeat([]int{3}, i-1))
			tail := bytes.Repeat([]byte{3}, 6)
			refuses(t, join(head, long, great, tail), api.ErrForm)
			refuses(t, join(head, great, long, tail), api.ErrArg)
			refuses(t, join(head, great), api.ErrArg)
		}
	}
	refuses(t, []byte{10, 133, 0}, api.ErrArg)
	refuses(t, []byte{10}, api.ErrArg)
	refuses(t, append([]byte{134, 0}, great...), api.ErrForm)
}

func TestEventsThatAreCutOff(t *testing.T) {
	for _, c := range many() {
		for n := range c.b {
			refuses(t, c.b[:n], api.ErrForm)
		}
	}
}

func TestGetNeitherChangesNorKeepsItsBytes(t *testing.T) {
	whole := []byte{6, 172, 2, 9, 9, 9}
	was := bytes.Clone(whole)
	gets(t, whole[:3], event.Event{Kind: event.Call, N: 300}, 3)
	refuses(t, whole[:2], api.ErrForm)
	if !bytes.Equal(whole, was) {
		t.Errorf("the bytes were changed: %v", whole)
	}
	whole[1], whole[2] = 5, 7
	gets(t, whole, event.Event{Kind: event.Call, N: 5}, 2)
}

// one is the event with which bytes begin, by the chapter's words and the library's way to read numbers.
func one(b []byte) (event.Event, int, api.Errno) {
	n, at, err := number(b, 9)
	if err != api.OK {
		return event.Event{}, 0, err
	}
	k := kinds[n]
	var list []int
	for range k.names {
		n, size, err := number(b[at:], most)
		if err != api.OK {
			return event.Event{}, 0, err
		}
		list = append(list, int(n))
		at += size
	}
	return k.event(list), at, api.OK
}

// number is the number with which bytes begin, if it is none but within most, in its shortest form.
func number(b []byte, most uint64) (uint64, int, api.Errno) {
	n, size := binary.Uvarint(b)
	if size <= 0 || !bytes.Equal(binary.AppendUvarint(nil, n), b[:size]) {
		return 0, 0, api.ErrForm
	}
	if n > most {
		return 0, 0, api.ErrArg
	}
	return n, size, api.OK
}

// agree holds Get against the chapter's words; what is told is written as just the bytes that were read.
func agree(t *testing.T, b []byte) {
	t.Helper()
	e, n, err := event.Get(b)
	wantE, wantN, wantErr := one(b)
	if e != wantE || n != wantN || err != wantErr {
		t.Fatalf("Get(%v) is %+v, %d, %q, want %+v, %d, %q", b, e, n, err.Word(), wantE, wantN, wantErr.Word())
	}
	if err != api.OK {
		return
	}
	if !e.Right() {
		t.Fatalf("Get(%v) is %+v, which isn't Right", b, e)
	}
	if got := event.Put(nil, e); !bytes.Equal(got, b[:n]) {
		t.Fatalf("%+v was read of %v, and is written as %v", e, b[:n], got)
	}
}

func TestEachByteFirstAndSecond(t *testing.T) {
	for one := range 256 {
		agree(t, []byte{byte(one)})
		for two := range 256 {
			agree(t, []byte{byte(one), byte(two)})
			agree(t, []byte{byte(one), byte(two), 5})
			agree(t, []byte{byte(one), byte(two), 128, 1, 0, 9, 1, 1})
		}
	}
}

// someBytes is bytes of which many begin as events do.
func someBytes(r *rand.Rand, size int) []byte {
	telling := []byte{0, 1, 2, 3, 5, 6, 9, 10, 127, 128, 129, 255}
	b := make([]byte, size)
	for i := range b {
		b[i] = telling[r.Intn(len(telling))]
	}
	return b
}

func TestGetOfManyBytes(t *testing.T) {
	r := rand.New(rand.NewSource(16))
	for range 200000 {
		agree(t, someBytes(r, r.Intn(12)))
	}
	for range 20000 {
		agree(t, someBytes(r, 60+r.Intn(40)))
	}
}

func FuzzGet(f *testing.F) {
	for _, c := range byHand() {
		f.Add(c.b)
	}
	for _, c := range bads() {
		f.Add(append([]byte{2}, c.b...))
	}
	f.Fuzz(func(t *testing.T, b []byte) {
		agree(t, b)
		agreeAll(t, b)
	})
}

// P16.3

// told is what All tells.
type told struct {
	list []event.Event
	at   int
	err  api.Errno
}

// tells sees that All tells that, and turns nothing of what it is given.
func tells(t *testing.T, name string, b []byte, want told) {
	t.Helper()
	was := bytes.Clone(b)
	list, at, err := event.All(b)
	if at != want.at || err != want.err {
		t.Errorf("%s: All stops at %d with %q, want %d, %q", name, at, err.Word(), want.at, want.err.Word())
	}
	if !slices.Equal(list, want.list) {
		t.Errorf("%s: All tells %s, want %s", name, short(list), short(want.list))
	}
	if !bytes.Equal(b, was) {
		t.Errorf("%s: All changed its bytes", name)
	}
}

// short is a list, or how long it is.
func short(list []event.Event) string {
	if len(list) < 20 {
		return fmt.Sprintf("%+v", list)
	}
	return fmt.Sprintf("%d events", len(list))
}

// joined is events one behind the other, and their bytes.
func joined(list []bytesOf) ([]event.Event, []byte) {
	var events []event.Event
	var b []byte
	for _, c := range list {
		events = append(events, c.e)
		b = append(b, c.b...)
	}
	return events, b
}

func TestAllOfNoBytes(t *testing.T) {
	tells(t, "nil", nil, told{})
	tells(t, "empty", []byte{}, told{})
}

func TestAllOfOneEvent(t *testing.T) {
	for _, c := range many() {
		tells(t, fmt.Sprint(c.b), c.b, told{[]event.Event{c.e}, len(c.b), api.OK})
	}
}

func TestAllOfManyEvents(t *testing.T) {
	events, b := joined(many())
	tells(t, "events of each Kind", b, told{events, len(b), api.OK})
	slices.Reverse(events)
	b = nil
	for _, e := range events {
		b = event.Put(b, e)
	}
	tells(t, "the last one first", b, told{events, len(b), api.OK})
}

func TestAllOfTheSameEventsAgain(t *testing.T) {
	call := event.Event{Kind: event.Call, N: 5}
	tells(t, "calls and ticks", []byte{6, 5, 0, 0, 6, 5, 6, 5, 0}, told{[]event.Event{call, {}, {}, call, call, {}}, 9, api.OK})
}

// TestBytesThatAreNoEvent has them at the first, in the middle, and at the end, with events behind them or not.
func TestBytesThatAreNoEvent(t *testing.T) {
	events, b := joined(byHand())
	for _, k := range append(kinds, kind{name: "no Kind"}) {
		heads := [][]byte{nil}
		if k.name != "no Kind" {
			heads = nil
			for i := range k.names {
				heads = append(heads, k.written(slices.Repeat([]int{300}, i)))
			}
		}
		for _, head := range heads {
			for _, c := range bads() {
				none := join(head, c.b)
				if len(none) == 0 {
					continue
				}
				tells(t, k.name+" at the first", none, told{nil, 0, c.err})
				tells(t, k.name+" at the end", join(b, none), told{events, len(b), c.err})
				if !cutOff(c.b) {
					tells(t, k.name+" ahead", join(none, b), told{nil, 0, c.err})
					tells(t, k.name+" in the middle", join(b, none, b), told{events, len(b), c.err})
				}
			}
		}
	}
}

func TestAllStopsAtEachEventOfMany(t *testing.T) {
	hand := byHand()
	for i, c := range hand {
		events, b := joined(hand[:i])
		_, behind := joined(hand[i:])
		tells(t, "no Kind ahead of the rest", join(b, []byte{10}, behind), told{events, len(b), api.ErrArg})
		tells(t, "a longer Kind ahead of the rest", join(b, []byte{134, 0}, behind), told{events, len(b), api.ErrForm})
		for n := 1; n < len(c.b); n++ {
			tells(t, "cut off", join(b, c.b[:n]), told{events, len(b), api.ErrForm})
		}
	}
}

// TestTheFirstThatIsNoEventCounts has two of them, of different errors, in both orders.
func TestTheFirstThatIsNoEventCounts(t *testing.T) {
	tells(t, "a Kind, then a form", []byte{0, 10, 133, 0}, told{[]event.Event{{}}, 1, api.ErrArg})
	tells(t, "a form, then a Kind", []byte{0, 6, 133, 0, 10}, told{[]event.Event{{}}, 1, api.ErrForm})
}

// full is just MaxBytes bytes, of fewer than MaxEvents events.
func full(t *testing.T) ([]event.Event, []byte) {
	t.Helper()
	k := kinds[event.Func]
	long := bytesOf{k.event(k.all(most)), k.written(k.all(most))}
	list := slices.Repeat([]bytesOf{long}, api.MaxBytes/len(long.b))
	for range api.MaxBytes % len(long.b) {
		list = append(list, bytesOf{event.Event{}, []byte{0}})
	}
	events, b := joined(list)
	if len(b) != 1<<18 || len(events) >= 1<<14 {
		t.Fatalf("%d bytes of %d events", len(b), len(events))
	}
	return events, b
}

func TestMaxBytes(t *testing.T) {
	events, b := full(t)
	tells(t, "MaxBytes", b, told{events, 1 << 18, api.OK})
	last := len(events) - 1
	tells(t, "one less", b[:1<<18-1], told{events[:last], 1<<18 - 1, api.OK})
	tells(t, "one more", append(b, 0), told{nil, 0, api.ErrMany})
	tells(t, "one more, which is no event", append(b, 255), told{nil, 0, api.ErrMany})
	tells(t, "two more", append(b, 6, 5), told{nil, 0, api.ErrMany})
	tells(t, "twice as many", append(b, b...), told{nil, 0, api.ErrMany})
}

// TestTooManyBytesAreToldFirst has such as would be another error, were they fewer.
func TestTooManyBytesAreToldFirst(t *testing.T) {
	for _, fill := range []byte{0, 10, 128, 255} {
		b := bytes.Repeat([]byte{fill}, api.MaxBytes+1)
		tells(t, fmt.Sprint("of ", fill), b, told{nil, 0, api.ErrMany})
	}
	b := bytes.Repeat([]byte{10}, api.MaxBytes)
	tells(t, "just as many of 10", b, told{nil, 0, api.ErrArg})
	b = bytes.Repeat([]byte{128}, api.MaxBytes)
	tells(t, "just as many of 128", b, told{nil, 0, api.ErrForm})
}

func TestMaxEvents(t *testing.T) {
	n := 1 << 14
	ticks := make([]event.Event, n)
	tells(t, "one less", make([]byte, n-1), told{ticks[1:], n - 1, api.OK})
	tells(t, "MaxEvents", make([]byte, n), told{ticks, n, api.OK})
	tells(t, "one more", make([]byte, n+1), told{ticks, n, api.ErrMany})
	tells(t, "two more", make([]byte, n+2), told{ticks, n, api.ErrMany})
	tells(t, "as many bytes as there may be", make([]byte, api.MaxBytes), told{ticks, n, api.ErrMany})
	// the byte isn't the number of events
	call := bytesOf{event.Event{Kind: event.Booted, N: 300}, []byte{7, 172, 2}}
	calls, b := joined(slices.Repeat([]bytesOf{call}, n))
	tells(t, "MaxEvents of three bytes", b, told{calls, 3 * n, api.OK})
	tells(t, "one more of three bytes", append(b, call.b...), told{calls, 3 * n, api.ErrMany})
}

// TestBothBounds has just MaxEvents events of just MaxBytes bytes.
func TestBothBounds(t *testing.T) {
	list := slices.Repeat([]bytesOf{{
		event.Event{Kind: event.Func, N: most, Account: most, Mem: 300},
		[]byte{2, 255, 255, 255, 255, 7, 255, 255, 255, 255, 7, 172, 2, 0, 0, 0},
	}}, 1<<14)
	events, b := joined(list)
	tells(t, "both", b, told{events, 1 << 18, api.OK})
	tells(t, "one byte more", append(b, 0), told{nil, 0, api.ErrMany})
}

// TestNoEventBehindMaxEvents: what Get doesn't tell is named first, and isn't an event of which there would be too many.
func TestNoEventBehindMaxEvents(t *testing.T) {
	n := 1 << 14
	ticks := make([]event.Event, n)
	for _, c := range bads() {
		if len(c.b) > 0 {
			tells(t, "no event", append(make([]byte, n), c.b...), told{ticks, n, c.err})
		}
		tells(t, "no event behind one too many", append(make([]byte, n+1), c.b...), told{ticks, n, api.ErrMany})
		tells(t, "no event as the last one", append(make([]byte, n-1), append([]byte{6}, c.b...)...), told{ticks[1:], n - 1, c.err})
	}
}

func TestAllAnswersNewMemory(t *testing.T) {
	b := []byte{6, 5, 6, 7, 10}
	list, _, _ := event.All(b)
	b[1] = 9
	again, _, _ := event.All(b)
	again[1].N = 77
	if want := []event.Event{{Kind: event.Call, N: 5}, {Kind: event.Call, N: 7}}; !slices.Equal(list, want) {
		t.Errorf("the first answer is %+v by now, want %+v", list, want)
	}
	third, _, _ := event.All(b)
	if want := []event.Event{{Kind: event.Call, N: 9}, {Kind: event.Call, N: 7}}; !slices.Equal(third, want) {
		t.Errorf("All is %+v, want %+v", third, want)
	}
}

// agreeAll holds All against the chapter's words, of bytes that are fewer than MaxEvents.
func agreeAll(t *testing.T, b []byte) {
	t.Helper()
	if len(b) > api.MaxEvents {
		return
	}
	var want told
	for want.at < len(b) && want.err == api.OK {
		e, n, err := one(b[want.at:])
		want.err = err
		want.at += n
		if err == api.OK {
			want.list = append(want.list, e)
		}
	}
	list, at, err := event.All(b)
	if !slices.Equal(list, want.list) || at != want.at || err != want.err {
		t.Fatalf("All(%v) is %+v, %d, %q, want %+v, %d, %q", b, list, at, err.Word(), want.list, want.at, want.err.Word())
	}
}

func TestAllOfManyBytes(t *testing.T) {
	r := rand.New(rand.NewSource(163))
	for range 100000 {
		agreeAll(t, someBytes(r, r.Intn(30)))
	}
	for range 2000 {
		// mostly events, with a byte turned somewhere
		var b []byte
		for range 1 + r.Intn(60) {
			k := kinds[r.Intn(len(kinds))]
			list := k.all(0)
			for i := range list {
				list[i] = r.Intn(1 << r.Intn(32))
			}
			b = append(b, k.written(list)...)
		}
		agreeAll(t, b)
		b[r.Intn(len(b))] = byte(r.Intn(256))
		agreeAll(t, b)
	}
}

// TestEventHasNoOtherMembers: the tests go by names, and would pass over a number that has none here.
func TestEventHasNoOtherMembers(t *testing.T) {
	want := append([]string{"Kind"}, names...)
	var got []string
	for _, f := range reflect.VisibleFields(reflect.TypeFor[event.Event]()) {
		got = append(got, f.Name)
	}
	if !slices.Equal(got, want) {
		t.Errorf("an event has %v, want %v", got, want)
	}
}
