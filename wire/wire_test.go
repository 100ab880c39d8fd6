package wire_test

import (
	"bytes"
	"encoding/binary"
	"math"
	"math/big"
	"testing"

	"greenhouse/api"
	"greenhouse/wire"
)

const top = math.MaxUint64

// edges is 0, the greatest number, and those around each power of 2: among them each first and last number of so many bytes.
func edges() []uint64 {
	list := []uint64{0, 300, 1000, top, top - 1, top - 2}
	for shift := uint(0); shift < 64; shift++ {
		list = append(list, 1<<shift-1, 1<<shift, 1<<shift+1)
	}
	return list
}

// P3.1

func TestPutWritesTheBytesOfANumber(t *testing.T) {
	for _, c := range []struct {
		n    uint64
		want []byte
	}{
		{0, []byte{0}},
		{1, []byte{1}},
		{127, []byte{127}},
		{128, []byte{128, 1}},
		{300, []byte{172, 2}},
		{16383, []byte{255, 127}},
		{16384, []byte{128, 128, 1}},
		{1<<63 - 1, []byte{255, 255, 255, 255, 255, 255, 255, 255, 127}},
		{1 << 63, []byte{128, 128, 128, 128, 128, 128, 128, 128, 128, 1}},
		{top, []byte{255, 255, 255, 255, 255, 255, 255, 255, 255, 1}},
	} {
		if got := wire.Put(nil, c.n); !bytes.Equal(got, c.want) {
			t.Errorf("Put(nil, %d) = %v, want %v", c.n, got, c.want)
		}
	}
}

func TestPutTakesAsFewBytesAsCanBe(t *testing.T) {
	for _, n := range edges() {
		if got, want := wire.Put(nil, n), binary.AppendUvarint(nil, n); !bytes.Equal(got, want) {
			t.Errorf("Put(nil, %d) = %v, want %v", n, got, want)
		}
	}
	for size := 1; size <= 9; size++ {
		last := uint64(1)<<(7*size) - 1
		if got := len(wire.Put(nil, last)); got != size {
			t.Errorf("Put(nil, %d) has %d bytes, want %d", last, got, size)
		}
		if got := len(wire.Put(nil, last+1)); got != size+1 {
			t.Errorf("Put(nil, %d) has %d bytes, want %d", last+1, got, size+1)
		}
	}
}

func TestFlagIsTheNumberOneOrNought(t *testing.T) {
	if got := wire.Flag(nil, true); !bytes.Equal(got, []byte{1}) {
		t.Errorf("Flag(nil, true) = %v", got)
	}
	if got := wire.Flag(nil, false); !bytes.Equal(got, []byte{0}) {
		t.Errorf("Flag(nil, false) = %v", got)
	}
}

// puts is each call that puts something behind bytes, with what it puts.
func puts() []struct {
	name string
	put  func(b []byte) []byte
	tail []byte
} {
	return []struct {
		name string
		put  func(b []byte) []byte
		tail []byte
	}{
		{"Put 0", func(b []byte) []byte { return wire.Put(b, 0) }, []byte{0}},
		{"Put 300", func(b []byte) []byte { return wire.Put(b, 300) }, []byte{172, 2}},
		{"Put the greatest", func(b []byte) []byte { return wire.Put(b, top) }, append(bytes.Repeat([]byte{255}, 9), 1)},
		{"Flag true", func(b []byte) []byte { return wire.Flag(b, true) }, []byte{1}},
		{"Flag false", func(b []byte) []byte { return wire.Flag(b, false) }, []byte{0}},
	}
}

func TestWhatStandsAheadStays(t *testing.T) {
	for _, c := range puts() {
		for _, b := range [][]byte{nil, {}, {9}, {0}, {128}, {255, 0, 7, 200}, bytes.Repeat([]byte{130}, 100)} {
			want := append(bytes.Clone(b), c.tail...)
			if got := c.put(b); !bytes.Equal(got, want) {
				t.Errorf("%s behind %v: %v, want %v", c.name, b, got, want)
			}
		}
	}
}

func TestWhatIsHandedInIsNeitherChangedNorKept(t *testing.T) {
	for _, c := range puts() {
		whole := bytes.Repeat([]byte{77}, 40)
		b := whole[:3]
		got := c.put(b)
		if !bytes.Equal(whole, bytes.Repeat([]byte{77}, 40)) {
			t.Errorf("%s wrote into b, or into the room behind it: %v", c.name, whole)
		}
		for i := range whole {
			whole[i] = 5
		}
		if want := append([]byte{77, 77, 77}, c.tail...); !bytes.Equal(got, want) {
			t.Errorf("%s kept b: %v, want %v", c.name, got, want)
		}
	}
}

func TestAnswersShareNoMemory(t *testing.T) {
	b := wire.Put(nil, 300)
	one, two := wire.Put(b, 1), wire.Put(b, 2)
	flag := wire.Flag(b, false)
	if !bytes.Equal(one, []byte{172, 2, 1}) || !bytes.Equal(two, []byte{172, 2, 2}) || !bytes.Equal(flag, []byte{172, 2, 0}) {
		t.Errorf("behind the same bytes: %v, %v, %v", one, two, flag)
	}
}

// P3.2

// state is what a Reader tells of itself.
type state struct {
	more bool
	at   int
	err  api.Errno
}

func stateOf(r *wire.Reader) state { return state{r.More(), r.At(), r.Err()} }

func check(t *testing.T, b []byte, r *wire.Reader, want state) {
	t.Helper()
	if got := stateOf(r); got != want {
		t.Errorf("of %v: %+v, want %+v", b, got, want)
	}
}

func TestReadBeginsAtTheBeginning(t *testing.T) {
	for _, b := range [][]byte{nil, {}} {
		check(t, b, wire.Read(b), state{false, 0, api.OK})
	}
	for _, b := range [][]byte{{0}, {128}, {5, 6}, bytes.Repeat([]byte{255}, 20)} {
		check(t, b, wire.Read(b), state{true, 0, api.OK})
	}
}

func TestNumsAreReadOneBehindTheOther(t *testing.T) {
	b := []byte{172, 2, 0, 127, 128, 1}
	r := wire.Read(b)
	for _, c := range []struct {
		want  uint64
		state state
	}{
		{300, state{true, 2, api.OK}},
		{0, state{true, 3, api.OK}},
		{127, state{true, 4, api.OK}},
		{128, state{false, 6, api.OK}},
	} {
		if got := r.Num(top); got != c.want {
			t.Errorf("Num = %d, want %d", got, c.want)
		}
		check(t, b, r, c.state)
	}
}

func TestWhatWasPutIsRead(t *testing.T) {
	var b []byte
	for i, n := range edges() {
		b = wire.Flag(wire.Put(b, n), i%2 == 0)
	}
	r := wire.Read(b)
	var again []byte
	for i, n := range edges() {
		if got := r.Num(n); got != n {
			t.Fatalf("number %d: %d, want %d", i, got, n)
		}
		again = wire.Put(again, n)
		if got := r.Flag(); got != (i%2 == 0) {
			t.Fatalf("flag %d: %v", i, got)
		}
		again = wire.Flag(again, i%2 == 0)
		if r.At() != len(again) || r.Err() != api.OK || r.More() != (len(again) < len(b)) {
			t.Fatalf("behind %d: %+v", i, stateOf(r))
		}
	}
}

func TestANumberAtMostAndOneAboveIt(t *testing.T) {
	for _, n := range edges() {
		b := wire.Put([]byte{7}, n)
		r := wire.Read(b)
		r.Num(7)
		if got := r.Num(n); got != n {
			t.Errorf("Num(%d) of %v = %d", n, b, got)
		}
		check(t, b, r, state{false, len(b), api.OK})
		if n == 0 {
			continue
		}
		r = wire.Read(b)
		r.Num(7)
		if got := r.Num(n - 1); got != 0 {
			t.Errorf("Num(%d) of %v = %d, want 0", n-1, b, got)
		}
		check(t, b, r, state{false, 1, api.ErrArg})
	}
}

// unended is so many bytes none of which is a number's last one, and others behind them.
func unended(n int, last ...byte) []byte {
	return append(bytes.Repeat([]byte{255}, n), last...)
}

// wrong is bytes that begin with no number.
func wrong() [][]byte {
	list := [][]byte{
		nil,
		{},
		{128}, {255}, {128, 128}, unended(9),
		{128, 0}, {255, 0}, {128, 128, 0}, {172, 130, 0}, {129, 0, 1}, {128, 0, 128}, unended(8, 0), unended(9, 0),
	}
	for _, tenth := range []byte{2, 3, 127, 128, 129, 130, 255} {
		list = append(list, unended(9, tenth), unended(9, tenth, 0), unended(9, tenth, 1), unended(9, tenth, 128), unended(9, tenth, 5, 5))
	}
	return list
}

func TestBytesThatAreNoNumber(t *testing.T) {
	for _, b := range wrong() {
		for _, most := range []uint64{0, 1, 127, top} {
			r := wire.Read(b)
			if got := r.Num(most); got != 0 {
				t.Errorf("Num(%d) of %v = %d", most, b, got)
			}
			check(t, b, r, state{false, 0, api.ErrForm})
		}
		r := wire.Read(b)
		if r.Flag() {
			t.Errorf("Flag of %v", b)
		}
		check(t, b, r, state{false, 0, api.ErrForm})
	}
}

func TestTenthByteOfOneIsRight(t *testing.T) {
	b := unended(9, 1, 4)
	r := wire.Read(b)
	if got := r.Num(top); got != top {
		t.Errorf("Num of %v = %d", b, got)
	}
	check(t, b, r, state{true, 10, api.OK})
	if got := r.Num(4); got != 4 {
		t.Errorf("Num behind it = %d", got)
	}
	check(t, b, r, state{false, 11, api.OK})
}

func TestFirstByteOfNoughtIsRight(t *testing.T) {
	b := []byte{0, 0, 0}
	r := wire.Read(b)
	for at := 1; at <= 3; at++ {
		if got := r.Num(0); got != 0 {
			t.Errorf("Num = %d", got)
		}
		check(t, b, r, state{at < 3, at, api.OK})
	}
}

func TestFlags(t *testing.T) {
	for _, c := range []struct {
		b    []byte
		on   bool
		want state
	}{
		{[]byte{0}, false, state{false, 1, api.OK}},
		{[]byte{1}, true, state{false, 1, api.OK}},
		{[]byte{0, 1}, false, state{true, 1, api.OK}},
		{[]byte{1, 0}, true, state{true, 1, api.OK}},
		{[]byte{2}, false, state{false, 0, api.ErrArg}},
		{[]byte{127, 1}, false, state{false, 0, api.ErrArg}},
		{[]byte{129, 1}, false, state{false, 0, api.ErrArg}},
		{unended(9, 1), false, state{false, 0, api.ErrArg}},
		{[]byte{129}, false, state{false, 0, api.ErrForm}},
		{[]byte{129, 0}, false, state{false, 0, api.ErrForm}},
	} {
		r := wire.Read(c.b)
		if got := r.Flag(); got != c.on {
			t.Errorf("Flag of %v = %v", c.b, got)
		}
		check(t, c.b, r, c.want)
	}
}

// TestNothingIsReadBehindAnError asks each call again, where right bytes would follow.
func TestNothingIsReadBehindAnError(t *testing.T) {
	for _, c := range []struct {
		b    []byte
		most uint64
		err  api.Errno
	}{
		{[]byte{3, 9, 1, 1}, 8, api.ErrArg},
		{[]byte{3, 1, 1, 1}, 0, api.ErrArg},
		{[]byte{3, 172, 2, 1, 1}, 299, api.ErrArg},
		{[]byte{3, 128, 0, 1, 1}, top, api.ErrForm},
		{append([]byte{3}, unended(9, 2, 1, 1)...), top, api.ErrForm},
		{append([]byte{3}, unended(9, 129, 1, 1)...), top, api.ErrForm},
		{[]byte{3, 129}, top, api.ErrForm},
		{[]byte{3}, top, api.ErrForm},
	} {
		r := wire.Read(c.b)
		if got := r.Num(3); got != 3 {
			t.Errorf("Num of %v = %d", c.b, got)
		}
		for range 3 {
			if got := r.Num(c.most); got != 0 {
				t.Errorf("Num of %v behind an error = %d", c.b, got)
			}
			check(t, c.b, r, state{false, 1, c.err})
			if got := r.Num(top); got != 0 {
				t.Errorf("Num of %v behind an error = %d", c.b, got)
			}
			if r.Flag() {
				t.Errorf("Flag of %v behind an error", c.b)
			}
			check(t, c.b, r, state{false, 1, c.err})
		}
	}
}

// TestTheFirstErrorStays has an error of the one kind where one of the other would follow.
func TestTheFirstErrorStays(t *testing.T) {
	b := []byte{9, 128, 0}
	r := wire.Read(b)
	r.Num(8)
	r.Num(9)
	r.Num(9)
	check(t, b, r, state{false, 0, api.ErrArg})
	b = []byte{128, 0, 9}
	r = wire.Read(b)
	r.Num(8)
	r.Num(8)
	check(t, b, r, state{false, 0, api.ErrForm})
}

// TestFormIsToldAheadOfBounds has bytes whose number would be above most as well, were they one.
func TestFormIsToldAheadOfBounds(t *testing.T) {
	for _, b := range [][]byte{{255, 255, 0}, {255, 255}, unended(9, 2)} {
		r := wire.Read(b)
		r.Num(5)
		check(t, b, r, state{false, 0, api.ErrForm})
	}
}

func TestReaderNeitherKeepsNorChangesItsBytes(t *testing.T) {
	b := []byte{172, 2, 1, 7}
	r := wire.Read(b)
	if got := r.Num(top); got != 300 {
		t.Errorf("Num = %d", got)
	}
	if !r.Flag() {
		t.Error("Flag = false")
	}
	if !bytes.Equal(b, []byte{172, 2, 1, 7}) {
		t.Errorf("the bytes were changed: %v", b)
	}
	b[3] = 9
	if got := r.Num(top); got != 7 {
		t.Errorf("Num = %d, want 7, which stood there when reading began", got)
	}
}

func TestReadersDoNotMeet(t *testing.T) {
	b := []byte{1, 2}
	one, two := wire.Read(b), wire.Read(b)
	one.Num(0)
	check(t, b, one, state{false, 0, api.ErrArg})
	check(t, b, two, state{true, 0, api.OK})
	two.Num(1)
	check(t, b, two, state{true, 1, api.OK})
}

// expected is the number that b begins with, by the document's words and with numbers of any size, how many bytes it has, and the error.
func expected(b []byte, most uint64) (n uint64, size int, err api.Errno) {
	sum := new(big.Int)
	for i, c := range b {
		if i > 0 && c == 0 || i == 9 && c > 1 {
			return 0, 0, api.ErrForm
		}
		part := new(big.Int).Lsh(big.NewInt(int64(c%128)), uint(7*i))
		sum.Add(sum, part)
		if c/128 == 1 {
			continue
		}
		if sum.Cmp(new(big.Int).SetUint64(most)) > 0 {
			return 0, 0, api.ErrArg
		}
		return sum.Uint64(), i + 1, api.OK
	}
	return 0, 0, api.ErrForm
}

func checkExpected(t *testing.T, b []byte, most uint64) {
	t.Helper()
	r := wire.Read(b)
	got := r.Num(most)
	want, size, err := expected(b, most)
	if got != want {
		t.Fatalf("Num(%d) of %v = %d, want %d", most, b, got, want)
	}
	check(t, b, r, state{err == api.OK && size < len(b), size, err})
}

// TestAllBytesOfSomeLength goes through all bytes of up to three telling ones, behind runs of each length.
func TestAllBytesOfSomeLength(t *testing.T) {
	telling := []byte{0, 1, 2, 127, 128, 129, 255}
	for run := 0; run <= 11; run++ {
		for _, fill := range []byte{128, 170, 255} {
			tails := [][]byte{{}}
			for range 4 {
				for _, tail := range tails {
					b := append(bytes.Repeat([]byte{fill}, run), tail...)
					for _, most := range []uint64{0, 1, 127, 128, 1<<63 - 1, top - 1, top} {
						checkExpected(t, b, most)
					}
				}
				tails = longer(tails, telling)
			}
		}
	}
}

func longer(tails [][]byte, by []byte) [][]byte {
	var list [][]byte
	for _, tail := range tails {
		for _, c := range by {
			list = append(list, append(bytes.Clone(tail), c))
		}
	}
	return list
}

// TestEachByteFirstAndSecond goes through all bytes of two.
func TestEachByteFirstAndSecond(t *testing.T) {
	for one := 0; one < 256; one++ {
		checkExpected(t, []byte{byte(one)}, 200)
		for two := 0; two < 256; two++ {
			checkExpected(t, []byte{byte(one), byte(two)}, 5000)
		}
	}
}

func FuzzNum(f *testing.F) {
	for _, b := range wrong() {
		f.Add(b, uint64(300))
	}
	f.Fuzz(func(t *testing.T, b []byte, most uint64) { checkExpected(t, b, most) })
}
