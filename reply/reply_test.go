package reply_test

import (
	"fmt"
	"math"
	"math/big"
	"math/rand"
	"regexp"
	"strings"
	"testing"

	"greenhouse/api"
	"greenhouse/event"
	"greenhouse/reply"
)

const most = event.Most

// row is an answer with its words.
type row struct {
	a reply.Answer
	s string
}

// few is all answers that have no sandbox.
func few() []row {
	return []row{
		{reply.Answer{}, "ok"},
		{reply.Answer{Kind: reply.Refused, Err: api.ErrArg}, "refused arg"},
		{reply.Answer{Kind: reply.Refused, Err: api.ErrNone}, "refused none"},
		{reply.Answer{Kind: reply.Refused, Err: api.ErrState}, "refused state"},
		{reply.Answer{Kind: reply.Refused, Err: api.ErrQuota}, "refused quota"},
		{reply.Answer{Kind: reply.Refused, Err: api.ErrForm}, "refused form"},
		{reply.Answer{Kind: reply.Refused, Err: api.ErrMany}, "refused many"},
		{reply.Answer{Kind: reply.Throttled, Why: reply.OfFunction}, "throttled function"},
		{reply.Answer{Kind: reply.Throttled, Why: reply.OfAccount}, "throttled account"},
		{reply.Answer{Kind: reply.Throttled, Why: reply.NoTokens}, "throttled tokens"},
		{reply.Answer{Kind: reply.Throttled, Why: reply.NoRoom}, "throttled room"},
	}
}

// boxed is answers with sandboxes.
func boxed() []row {
	list := []row{
		{reply.Answer{Kind: reply.Warm, Box: 5}, "warm 5"},
		{reply.Answer{Kind: reply.Cold, Box: 12}, "cold 12"},
		{reply.Answer{Kind: reply.Warm, Box: most}, "warm 2147483647"},
		{reply.Answer{Kind: reply.Cold, Box: most}, "cold 2147483647"},
	}
	for _, n := range []int{1, 2, 3, 7, 9, 10, 11, 99, 100, 101, 1000, 65536, 1000000000, most - 1} {
		list = append(list, row{reply.Answer{Kind: reply.Warm, Box: n}, fmt.Sprint("warm ", n)}, row{reply.Answer{Kind: reply.Cold, Box: n}, fmt.Sprint("cold ", n)})
	}
	return list
}

func rights() []row { return append(few(), boxed()...) }

// is sees that an answer is Right, and told so; or that it is neither, if it has no words.
func is(t *testing.T, a reply.Answer, s string) {
	t.Helper()
	if got := a.Right(); got != (s != "") {
		t.Errorf("Right of %#v is %v", a, got)
	}
	if got := a.String(); got != s {
		t.Errorf("String of %#v is %q, want %q", a, got, s)
	}
}

// P17.1

func TestKindsAndReasonsAreNumberedInOrder(t *testing.T) {
	for i, k := range []reply.Kind{reply.Taken, reply.Refused, reply.Warm, reply.Cold, reply.Throttled} {
		if int(k) != i {
			t.Errorf("Kind %d is %d", i, k)
		}
	}
	for i, w := range []reply.Why{reply.Nothing, reply.OfFunction, reply.OfAccount, reply.NoTokens, reply.NoRoom} {
		if int(w) != i {
			t.Errorf("Why %d is %d", i, w)
		}
	}
}

func TestAnswersThatAreRight(t *testing.T) {
	is(t, reply.Answer{Kind: reply.Warm, Box: 3}, "warm 3")
	is(t, reply.Answer{Kind: reply.Throttled, Why: reply.NoRoom}, "throttled room")
	for _, r := range rights() {
		is(t, r.a, r.s)
	}
}

func TestBoundsOfTheBox(t *testing.T) {
	for _, k := range []reply.Kind{reply.Warm, reply.Cold} {
		for _, n := range []int{math.MinInt, -most - 1, -most, -3, -1, 0, most + 1, most + 2, 1<<32 + 3, math.MaxInt} {
			is(t, reply.Answer{Kind: k, Box: n}, "")
		}
	}
	is(t, reply.Answer{Kind: reply.Warm, Box: 1}, "warm 1")
	is(t, reply.Answer{Kind: reply.Cold, Box: 1}, "cold 1")
	is(t, reply.Answer{Kind: reply.Warm, Box: most}, "warm 2147483647")
	is(t, reply.Answer{Kind: reply.Cold, Box: most}, "cold 2147483647")
}

func TestErrorsThatThereAreNot(t *testing.T) {
	for _, e := range []api.Errno{math.MinInt, -6, -1, api.OK, api.ErrMany + 1, api.ErrMany + 2, 256 + api.ErrArg, 1<<32 + api.ErrArg, math.MaxInt} {
		is(t, reply.Answer{Kind: reply.Refused, Err: e}, "")
	}
}

func TestReasonsThatThereAreNot(t *testing.T) {
	for _, w := range []reply.Why{math.MinInt, -4, -1, reply.Nothing, reply.NoRoom + 1, reply.NoRoom + 2, 256 + reply.NoRoom, 1<<32 + reply.NoRoom, math.MaxInt} {
		is(t, reply.Answer{Kind: reply.Throttled, Why: w}, "")
	}
}

func TestKindsThatThereAreNot(t *testing.T) {
	for _, k := range []reply.Kind{math.MinInt, -4, -1, reply.Throttled + 1, reply.Throttled + 2, 256, 256 + reply.Warm, 1 << 32, math.MaxInt} {
		is(t, reply.Answer{Kind: k}, "")
		is(t, reply.Answer{Kind: k, Box: 3}, "")
		is(t, reply.Answer{Kind: k, Why: reply.NoRoom}, "")
		is(t, reply.Answer{Kind: k, Err: api.ErrArg}, "")
	}
}

// TestEachMemberWithEachOther has all answers of members at their bounds and beyond: those that are Right are just the ones of the rows.
func TestEachMemberWithEachOther(t *testing.T) {
	words := map[reply.Answer]string{}
	for _, r := range rights() {
		words[r.a] = r.s
	}
	seen := 0
	for k := reply.Kind(-2); k <= reply.Throttled+2; k++ {
		for _, n := range []int{math.MinInt, -1, 0, 1, 2, 3, most - 1, most, most + 1, math.MaxInt} {
			for w := reply.Why(-2); w <= reply.NoRoom+2; w++ {
				for e := api.Errno(-2); e <= api.ErrMany+2; e++ {
					a := reply.Answer{Kind: k, Box: n, Why: w, Err: e}
					is(t, a, words[a])
					if a.Right() {
						seen++
					}
				}
			}
		}
	}
	if want := len(few()) + 2*5; seen != want {
		t.Errorf("%d are Right, want %d", seen, want)
	}
}

// P17.2

func TestCommandsAsWords(t *testing.T) {
	const greatest, least = math.MaxInt, math.MinInt
	for _, c := range []struct {
		c    reply.Command
		want string
	}{
		{reply.Command{}, "kill 0 0 0"},
		{reply.Command{Boot: true}, "boot 0 0 0"},
		{reply.Command{Boot: true, Box: 1}, "boot 1 0 0"},
		{reply.Command{Boot: true, Box: 1, Func: 2, Host: 3}, "boot 1 2 3"},
		{reply.Command{Box: 1, Func: 2, Host: 3}, "kill 1 2 3"},
		{reply.Command{Box: 4}, "kill 4 0 0"},
		{reply.Command{Func: 4}, "kill 0 4 0"},
		{reply.Command{Host: 4}, "kill 0 0 4"},
		{reply.Command{Boot: true, Box: 10, Func: 100, Host: 2147483648}, "boot 10 100 2147483648"},
		{reply.Command{Boot: true, Box: -1, Func: -20, Host: -300}, "boot -1 -20 -300"},
		{reply.Command{Box: -1}, "kill -1 0 0"},
	} {
		if got := c.c.String(); got != c.want {
			t.Errorf("String of %#v is %q, want %q", c.c, got, c.want)
		}
	}
	for _, n := range []int{greatest, least, greatest - 1, least + 1} {
		wide := big.NewInt(int64(n)).String()
		for _, c := range []struct {
			c    reply.Command
			want string
		}{
			{reply.Command{Boot: true, Box: n}, "boot " + wide + " 0 0"},
			{reply.Command{Func: n}, "kill 0 " + wide + " 0"},
			{reply.Command{Boot: true, Host: n}, "boot 0 0 " + wide},
			{reply.Command{Box: n, Func: n, Host: n}, "kill " + wide + " " + wide + " " + wide},
		} {
			if got := c.c.String(); got != c.want {
				t.Errorf("String of %#v is %q, want %q", c.c, got, c.want)
			}
		}
	}
}

// parses sees that a text is that answer's.
func parses(t *testing.T, s string, want reply.Answer) {
	t.Helper()
	if a, err := reply.Parse(s); a != want || err != api.OK {
		t.Errorf("Parse(%q) is %#v, %q, want %#v", s, a, err.Word(), want)
	}
}

// none sees that a text is no answer's.
func none(t *testing.T, s string) {
	t.Helper()
	if a, err := reply.Parse(s); a != (reply.Answer{}) || err != api.ErrForm {
		t.Errorf("Parse(%q) is %#v, %q, want nothing and form", s, a, err.Word())
	}
}

func TestParseOfWhatIsTold(t *testing.T) {
	for _, r := range rights() {
		parses(t, r.s, r.a)
		parses(t, r.a.String(), r.a)
	}
}

func TestTextsThatAreNone(t *testing.T) {
	for _, s := range []string{
		"", " ", "  ", "\n", "\x00",
		"o", "k", "okay", "OK", "Ok", "oK", " ok", "ok ", "ok  ", "\tok", "ok\n", "ok 3", "ok ok", "ok arg", "ok room", "okok",
		"taken", "Taken", "yes", "error", "boot 1 2 3", "kill 4 0 0", "0", "3", "nothing",
		"refused", "refused ", "refused ok", "refused  arg", "refused arg ", " refused arg", "refused\targ", "refused argument", "refused ar", "refused a", "refused Arg", "REFUSED arg", "Refused arg", "refused ARG", "refusedarg", "refuse arg", "refused 1", "refused room", "refused 3", "refused arg none", "refused arg arg", "refused room ", "refused nothing",
		"throttled", "throttled ", "throttled ok", "throttled nothing", "throttled  room", "throttled room ", " throttled room", "throttled rooms", "throttled roo", "throttled Room", "Throttled room", "THROTTLED ROOM", "throttledroom", "throttle room", "throttled token", "throttled functions", "throttled 4", "throttled arg", "throttled room room", "throttled function account",
	} {
		none(t, s)
	}
}

func TestTextsThatAreNoSandbox(t *testing.T) {
	for _, word := range []string{"warm", "cold"} {
		for _, rest := range []string{
			"", " ", "3", "  3", " 3 ", " 3 3", " 3 0", "\t3", "\n3", " 3\n", "-3", ", 3",
			" 0", " 00", " 03", " 003", " 01", " +3", " -3", " -0", " +0", " --3", " 3-",
			" 2147483648", " 2147483649", " 4294967299", " 02147483647", " 9999999999",
			" 9223372036854775807", " 9223372036854775808", " 18446744073709551619", " 18446744073709551616003", " -9223372036854775808",
			" 1e3", " 3.0", " 3.", " .3", " 0x3", " 0b1", " 0o3", " 1_0", " 1,0", " three", " x", " 3x", " x3", " \u0663", " \uff13", " \u00b2",
			" " + strings.Repeat("9", 100000), " " + strings.Repeat("0", 100000) + "3", " ok", " warm 3", " arg", " room",
		} {
			none(t, word+rest)
		}
		none(t, " "+word+" 3")
		none(t, strings.ToUpper(word)+" 3")
		none(t, strings.ToUpper(word[:1])+word[1:]+" 3")
		none(t, word[1:]+" 3")
		none(t, word[:3]+" 3")
		none(t, "hot 3")
		none(t, "3 "+word)
		none(t, "ok "+word+" 3")
	}
}

// form is the texts of the chapter, but for how great the number may be.
var form = regexp.MustCompile(`\A(ok|refused (arg|none|state|quota|form|many)|(warm|cold) [1-9][0-9]*|throttled (function|account|tokens|room))\z`)

// told tells whether a text is one that is told.
func told(s string) bool {
	if !form.MatchString(s) {
		return false
	}
	word, rest, _ := strings.Cut(s, " ")
	if word != "warm" && word != "cold" {
		return true
	}
	n, ok := new(big.Int).SetString(rest, 10)
	return ok && n.Cmp(big.NewInt(most)) <= 0
}

// agree holds Parse against the chapter's words: a text is either an answer's, and told as just that text, or none's.
func agree(t *testing.T, s string) {
	t.Helper()
	if !told(s) {
		none(t, s)
		return
	}
	a, err := reply.Parse(s)
	if err != api.OK || !a.Right() || a.String() != s {
		t.Errorf("Parse(%q) is %#v, %q, which is told as %q", s, a, err.Word(), a.String())
	}
}

// turns is all texts of which one letter is another one, isn't there, or stands there besides, and all that are cut off.
func turns(s string) []string {
	letters := []string{" ", "\t", "\n", "\x00", "-", "+", ".", "_", "0", "1", "9", "a", "k", "o", "s", "x", "A", "\xff", "é"}
	var list []string
	for i := 0; i <= len(s); i++ {
		list = append(list, s[:i], s[i:])
		for _, c := range letters {
			list = append(list, s[:i]+c+s[i:])
			if i < len(s) {
				list = append(list, s[:i]+c+s[i+1:])
			}
		}
		if i < len(s) {
			list = append(list, s[:i]+s[i+1:], s[:i]+strings.ToUpper(s[i:i+1])+s[i+1:], s[:i]+s[i:i+1]+s[i:])
		}
	}
	return list
}

func TestTextsThatNearlyAreTold(t *testing.T) {
	for _, r := range rights() {
		for _, s := range turns(r.s) {
			agree(t, s)
		}
		agree(t, strings.ToUpper(r.s))
		agree(t, strings.ReplaceAll(r.s, " ", "  "))
		agree(t, r.s+r.s)
		agree(t, r.s+" "+r.s)
	}
}

// TestWordsWithEachOther has each word of the chapter behind each other one.
func TestWordsWithEachOther(t *testing.T) {
	words := []string{"", "ok", "refused", "warm", "cold", "throttled", "arg", "none", "state", "quota", "form", "many", "nothing", "function", "account", "tokens", "room", "boot", "kill", "0", "1", "3", "03", "-3", "2147483647", "2147483648"}
	for _, one := range words {
		agree(t, one)
		for _, two := range words {
			agree(t, one+" "+two)
			agree(t, one+two)
			agree(t, one+"\n"+two)
			for _, three := range words {
				agree(t, one+" "+two+" "+three)
			}
		}
	}
}

func TestParseOfManyNumbers(t *testing.T) {
	r := rand.New(rand.NewSource(17))
	for range 20000 {
		n := r.Int63() >> r.Intn(63)
		agree(t, fmt.Sprint("warm ", n))
		agree(t, fmt.Sprint("cold ", n))
		agree(t, fmt.Sprint("cold ", -n))
		agree(t, fmt.Sprintf("warm %05d", n))
	}
}

func FuzzParse(f *testing.F) {
	for _, r := range rights() {
		f.Add(r.s)
	}
	f.Fuzz(agree)
}
