package quota_test

import (
	"fmt"
	"math"
	"math/rand"
	"testing"

	"greenhouse/api"
	"greenhouse/quota"
)

const (
	free       = quota.Free
	ofFunction = quota.OfFunction
	ofAccount  = quota.OfAccount
)

// account sets an account, and sees what that tells.
func account(t *testing.T, l *quota.Ledger, a, limit int, want api.Errno) {
	t.Helper()
	was := tell(l)
	got := l.SetAccount(a, limit)
	if got != want {
		t.Fatalf("SetAccount(%d, %d) is %q, want %q", a, limit, got.Word(), want.Word())
	}
	if got != api.OK && tell(l) != was {
		t.Fatalf("SetAccount(%d, %d) is %q, and turned something", a, limit, got.Word())
	}
}

// function sets a function, and sees what that tells.
func function(t *testing.T, l *quota.Ledger, f, a, reserved int, want api.Errno) {
	t.Helper()
	was := tell(l)
	got := l.SetFunc(f, a, reserved)
	if got != want {
		t.Fatalf("SetFunc(%d, %d, %d) is %q, want %q", f, a, reserved, got.Word(), want.Word())
	}
	if got != api.OK && tell(l) != was {
		t.Fatalf("SetFunc(%d, %d, %d) is %q, and turned something", f, a, reserved, got.Word())
	}
}

// asked sees what Ask tells of a function that there is, and that it turns nothing.
func asked(t *testing.T, l *quota.Ledger, f int, want quota.Reason) {
	t.Helper()
	for range 2 {
		if why, ok := l.Ask(f); why != want || !ok {
			t.Fatalf("Ask(%d) is %d, %v, want %d", f, why, ok, want)
		}
	}
}

// begins lets so many calls begin, and sees that they do.
func begins(t *testing.T, l *quota.Ledger, f, times int) {
	t.Helper()
	for range times {
		asked(t, l, f, free)
		n := l.Busy(f)
		if !l.Begin(f) || l.Busy(f) != n+1 {
			t.Fatalf("Begin(%d) is false, or Busy isn't 1 more: %d behind %d", f, l.Busy(f), n)
		}
	}
}

// refused sees that none begins, for that reason.
func refused(t *testing.T, l *quota.Ledger, f int, want quota.Reason) {
	t.Helper()
	asked(t, l, f, want)
	was := tell(l)
	if l.Begin(f) || tell(l) != was {
		t.Fatalf("Begin(%d) is true, or turned something", f)
	}
	asked(t, l, f, want)
}

// ends lets so many calls come to their end, and sees that they do.
func ends(t *testing.T, l *quota.Ledger, f, times int) {
	t.Helper()
	for range times {
		n := l.Busy(f)
		if !l.End(f) || l.Busy(f) != n-1 {
			t.Fatalf("End(%d) is false, or Busy isn't 1 less: %d behind %d", f, l.Busy(f), n)
		}
	}
}

// stands sees what Account tells of one that there is.
func stands(t *testing.T, l *quota.Ledger, a, limit, reserved, run int) {
	t.Helper()
	if gotLimit, gotReserved, gotRun, ok := l.Account(a); gotLimit != limit || gotReserved != reserved || gotRun != run || !ok {
		t.Fatalf("Account(%d) is %d, %d, %d, %v, want %d, %d, %d", a, gotLimit, gotReserved, gotRun, ok, limit, reserved, run)
	}
}

// noFunction sees that there is no such function.
func noFunction(t *testing.T, l *quota.Ledger, f int) {
	t.Helper()
	was := tell(l)
	if why, ok := l.Ask(f); why != free || ok {
		t.Fatalf("Ask(%d) is %d, %v, of none", f, why, ok)
	}
	if l.Begin(f) || l.End(f) || l.Busy(f) != 0 || tell(l) != was {
		t.Fatalf("Begin, End or Busy of %d told something, or turned it, of none", f)
	}
}

// noAccount sees that there is no such account.
func noAccount(t *testing.T, l *quota.Ledger, a int) {
	t.Helper()
	if limit, reserved, run, ok := l.Account(a); limit != 0 || reserved != 0 || run != 0 || ok {
		t.Fatalf("Account(%d) is %d, %d, %d, %v, of none", a, limit, reserved, run, ok)
	}
}

// what is all that a ledger tells by calls that turn nothing.
type what struct {
	accounts [api.MaxAccounts + 2]struct {
		limit, reserved, run int
		ok                   bool
	}
	funcs [api.MaxFuncs + 2]struct {
		why quota.Reason
		ok  bool
		run int
	}
}

func tell(l *quota.Ledger) what {
	var out what
	for i := range out.accounts {
		x := &out.accounts[i]
		x.limit, x.reserved, x.run, x.ok = l.Account(i - 1)
	}
	for i := range out.funcs {
		x := &out.funcs[i]
		x.why, x.ok = l.Ask(i - 1)
		x.run = l.Busy(i - 1)
	}
	return out
}

// outside is numbers that no account, no function, no limit may have.
func outside() []int {
	return []int{-1, -2, math.MinInt, 1001, 1 << 32, math.MaxInt}
}

// of is a ledger with the account 1, and functions of it: number 0 on, each with so many reserved.
func of(t *testing.T, limit int, reserved ...int) *quota.Ledger {
	t.Helper()
	l := quota.New()
	account(t, l, 1, limit, api.OK)
	for f, n := range reserved {
		function(t, l, f, 1, n, api.OK)
	}
	return l
}

// P11.1

func TestNewHasNothing(t *testing.T) {
	l := quota.New()
	for a := -1; a <= api.MaxAccounts; a++ {
		noAccount(t, l, a)
	}
	for f := -1; f <= api.MaxFuncs; f++ {
		noFunction(t, l, f)
	}
	for _, n := range outside() {
		noAccount(t, l, n)
		noFunction(t, l, n)
	}
	for a := range api.MaxAccounts {
		function(t, l, 3, a, 0, api.ErrNone)
		function(t, l, 3, a, 1, api.ErrNone)
	}
	noFunction(t, l, 3)
}

func TestReasonsInOrder(t *testing.T) {
	if free != 0 || ofFunction != 1 || ofAccount != 2 {
		t.Error(free, ofFunction, ofAccount)
	}
}

func TestSetAccountWithinBounds(t *testing.T) {
	for _, a := range append(outside(), 0, 1, 14, 15, 16, 17) {
		for _, limit := range append(outside(), 0, 1, 999, 1000, 1002) {
			l := quota.New()
			if a < 0 || a > 15 || limit < 0 || limit > 1000 {
				account(t, l, a, limit, api.ErrArg)
				noAccount(t, l, a)
				continue
			}
			account(t, l, a, limit, api.OK)
			stands(t, l, a, limit, 0, 0)
			for other := range api.MaxAccounts {
				if other != a {
					noAccount(t, l, other)
				}
			}
		}
	}
}

func TestSetFuncWithinBounds(t *testing.T) {
	for _, f := range append(outside(), 0, 1, 62, 63, 64, 65) {
		for _, a := range append(outside(), 0, 1, 14, 15, 16, 17) {
			for _, reserved := range append(outside(), 0, 1, 999, 1000, 1002) {
				l := quota.New()
				for there := range api.MaxAccounts {
					account(t, l, there, 1000, api.OK)
				}
				if f < 0 || f > 63 || a < 0 || a > 15 || reserved < 0 || reserved > 1000 {
					function(t, l, f, a, reserved, api.ErrArg)
					noFunction(t, l, f)
					continue
				}
				function(t, l, f, a, reserved, api.OK)
				stands(t, l, a, 1000, reserved, 0)
				asked(t, l, f, free)
			}
		}
	}
}

func TestTheFirstError(t *testing.T) {
	l := quota.New()
	account(t, l, 1, 5, api.OK)
	account(t, l, 2, 2, api.OK)
	function(t, l, 7, 1, 3, api.OK)
	// Not within bounds, and more is reserved than that.
	account(t, l, 1, -1, api.ErrArg)
	account(t, l, 1, math.MinInt, api.ErrArg)
	account(t, l, 16, 2, api.ErrArg)
	for _, bad := range outside() {
		// No such account, and something isn't within bounds.
		function(t, l, 64, 3, 0, api.ErrArg)
		function(t, l, 7, 3, bad, api.ErrArg)
		function(t, l, bad, 3, bad, api.ErrArg)
		// Of another account.
		function(t, l, 7, 2, bad, api.ErrArg)
		// More than the limit would be reserved.
		function(t, l, bad, 1, 6, api.ErrArg)
		function(t, l, 7, bad, 6, api.ErrArg)
	}
	function(t, l, 7, 1, 1001, api.ErrArg)
	// No such account: neither its function nor its limit counts.
	function(t, l, 7, 3, 3, api.ErrNone)
	function(t, l, 7, 15, 1000, api.ErrNone)
	// Of another account, that has no room for that either.
	function(t, l, 7, 2, 3, api.ErrState)
	function(t, l, 7, 2, 1000, api.ErrState)
	function(t, l, 7, 2, 0, api.ErrState)
	function(t, l, 7, 1, 6, api.ErrQuota)
	stands(t, l, 1, 5, 3, 0)
	stands(t, l, 2, 2, 0, 0)
	noAccount(t, l, 3)
}

// What an error answered is as if it had never been asked for, to calls that come later as well.
func TestAnErrorTurnsNothing(t *testing.T) {
	l := quota.New()
	account(t, l, 0, 1001, api.ErrArg)
	function(t, l, 0, 0, 0, api.ErrNone)
	account(t, l, 0, 4, api.OK)
	// It isn't a function yet, of whichever account: 1 may have it.
	account(t, l, 1, 4, api.OK)
	function(t, l, 0, 0, 5, api.ErrQuota)
	noFunction(t, l, 0)
	function(t, l, 0, 1, 2, api.OK)
	function(t, l, 0, 0, 1, api.ErrState)
	// Nothing of 0 is reserved: its limit may be 0, and all of it may.
	account(t, l, 0, 0, api.OK)
	account(t, l, 0, 4, api.OK)
	function(t, l, 9, 0, 4, api.OK)
	// Of 1 2 are: not 5 by one that was refused.
	function(t, l, 0, 1, 5, api.ErrQuota)
	account(t, l, 1, 1, api.ErrQuota)
	account(t, l, 1, 2, api.OK)
	begins(t, l, 0, 2)
	refused(t, l, 0, ofFunction)
	stands(t, l, 1, 2, 2, 2)
}

func TestSetAccountAnew(t *testing.T) {
	l := of(t, 10, 3, 0, 4)
	stands(t, l, 1, 10, 7, 0)
	account(t, l, 1, 6, api.ErrQuota)
	account(t, l, 1, 0, api.ErrQuota)
	stands(t, l, 1, 10, 7, 0)
	account(t, l, 1, 7, api.OK)
	stands(t, l, 1, 7, 7, 0)
	// Nothing is left for the one without.
	refused(t, l, 1, ofAccount)
	begins(t, l, 0, 3)
	begins(t, l, 2, 4)
	account(t, l, 1, 6, api.ErrQuota)
	account(t, l, 1, 7, api.OK)
	account(t, l, 1, 1000, api.OK)
	stands(t, l, 1, 1000, 7, 7)
	begins(t, l, 1, 993)
	refused(t, l, 1, ofAccount)
	stands(t, l, 1, 1000, 7, 1000)
}

func TestSetFuncAnew(t *testing.T) {
	l := of(t, 5, 3, 1)
	// Its own old ones don't count beside its new ones.
	function(t, l, 0, 1, 4, api.OK)
	stands(t, l, 1, 5, 5, 0)
	function(t, l, 0, 1, 5, api.ErrQuota)
	function(t, l, 1, 1, 2, api.ErrQuota)
	function(t, l, 2, 1, 1, api.ErrQuota)
	noFunction(t, l, 2)
	function(t, l, 2, 1, 0, api.OK)
	function(t, l, 0, 1, 4, api.OK)
	function(t, l, 0, 1, 0, api.OK)
	stands(t, l, 1, 5, 1, 0)
	function(t, l, 1, 1, 5, api.OK)
	stands(t, l, 1, 5, 5, 0)
	function(t, l, 1, 1, 6, api.ErrQuota)
	function(t, l, 1, 1, 0, api.OK)
	stands(t, l, 1, 5, 0, 0)
	account(t, l, 1, 0, api.OK)
	function(t, l, 1, 1, 1, api.ErrQuota)
	function(t, l, 1, 1, 0, api.OK)
}

func TestSetFuncAnewWhileCallsRun(t *testing.T) {
	l := of(t, 9, 3, 0)
	account(t, l, 2, 9, api.OK)
	begins(t, l, 0, 2)
	function(t, l, 0, 2, 2, api.ErrState)
	function(t, l, 0, 2, 0, api.ErrState)
	stands(t, l, 2, 9, 0, 0)
	for _, reserved := range []int{3, 4, 9, 2, 1, 0, 5} {
		function(t, l, 0, 1, reserved, api.OK)
		if l.Busy(0) != 2 {
			t.Fatalf("Busy is %d, want 2, with %d reserved", l.Busy(0), reserved)
		}
		stands(t, l, 1, 9, reserved, 2)
	}
	begins(t, l, 0, 3)
	refused(t, l, 0, ofFunction)
	function(t, l, 0, 1, 6, api.OK)
	begins(t, l, 0, 1)
	refused(t, l, 0, ofFunction)
	ends(t, l, 0, 6)
	if l.End(0) {
		t.Error("End is true, of none that runs")
	}
}

func TestReservedIsTheSum(t *testing.T) {
	l := quota.New()
	account(t, l, 0, 1000, api.OK)
	account(t, l, 15, 64, api.OK)
	sum := 0
	for f := range 32 {
		function(t, l, f, 0, f, api.OK)
		sum += f
		stands(t, l, 0, 1000, sum, 0)
	}
	for f := 32; f < 64; f++ {
		function(t, l, f, 15, 2, api.OK)
	}
	stands(t, l, 15, 64, 64, 0)
	stands(t, l, 0, 1000, sum, 0)
	account(t, l, 15, 63, api.ErrQuota)
	account(t, l, 0, sum-1, api.ErrQuota)
	account(t, l, 0, sum, api.OK)
	function(t, l, 63, 15, 3, api.ErrQuota)
	function(t, l, 32, 15, 1, api.OK)
	function(t, l, 63, 15, 3, api.OK)
}

// P11.2

func TestOfThreeTwoAreReserved(t *testing.T) {
	l := of(t, 3, 2, 0)
	begins(t, l, 1, 1)
	refused(t, l, 1, ofAccount)
	begins(t, l, 0, 2)
	refused(t, l, 0, ofFunction)
	refused(t, l, 1, ofAccount)
	stands(t, l, 1, 3, 2, 3)
	ends(t, l, 0, 1)
	// What is free is reserved, and nothing for the other one.
	refused(t, l, 1, ofAccount)
	begins(t, l, 0, 1)
	ends(t, l, 1, 1)
	refused(t, l, 0, ofFunction)
	begins(t, l, 1, 1)
}

func TestOfNoFunction(t *testing.T) {
	l := of(t, 3, 0, 1)
	begins(t, l, 0, 1)
	for _, f := range append(outside(), 2, 3, 62, 63, 64, 65, -64) {
		noFunction(t, l, f)
	}
	for _, a := range append(outside(), 0, 2, 14, 15, 16, 17, -16) {
		noAccount(t, l, a)
	}
	stands(t, l, 1, 3, 1, 1)
}

func TestEndOfNone(t *testing.T) {
	l := of(t, 3, 0, 2)
	for _, f := range []int{0, 1} {
		was := tell(l)
		if l.End(f) || l.Busy(f) != 0 || tell(l) != was {
			t.Errorf("End(%d) is true, of none that runs", f)
		}
		begins(t, l, f, 1)
		ends(t, l, f, 1)
		if l.End(f) || l.Busy(f) != 0 {
			t.Errorf("End(%d) is true once more than calls began", f)
		}
	}
	// No End that was false is owed: no more begin than may.
	begins(t, l, 0, 1)
	refused(t, l, 0, ofAccount)
	begins(t, l, 1, 2)
	refused(t, l, 1, ofFunction)
}

func TestAskAtEachBound(t *testing.T) {
	// The function's own.
	l := of(t, 10, 4)
	begins(t, l, 0, 4)
	refused(t, l, 0, ofFunction)
	ends(t, l, 0, 1)
	asked(t, l, 0, free)
	// The account's limit, with none reserved, by one function and by two.
	l = of(t, 4, 0, 0)
	begins(t, l, 0, 3)
	begins(t, l, 1, 1)
	refused(t, l, 0, ofAccount)
	refused(t, l, 1, ofAccount)
	ends(t, l, 0, 1)
	asked(t, l, 0, free)
	asked(t, l, 1, free)
	// The limit less what is reserved, while nothing of that runs.
	l = of(t, 6, 3, 0, 1, 0)
	begins(t, l, 1, 1)
	begins(t, l, 3, 1)
	refused(t, l, 1, ofAccount)
	refused(t, l, 3, ofAccount)
	asked(t, l, 0, free)
	asked(t, l, 2, free)
	stands(t, l, 1, 6, 4, 2)
	// Calls of functions with some reserved don't count against those without.
	begins(t, l, 0, 3)
	ends(t, l, 1, 1)
	asked(t, l, 1, free)
	asked(t, l, 3, free)
	begins(t, l, 3, 1)
	refused(t, l, 1, ofAccount)
}

func TestLimitOf0And1(t *testing.T) {
	l := of(t, 0, 0)
	refused(t, l, 0, ofAccount)
	stands(t, l, 1, 0, 0, 0)
	l = of(t, 1, 0, 0)
	begins(t, l, 1, 1)
	refused(t, l, 0, ofAccount)
	refused(t, l, 1, ofAccount)
	l = of(t, 1, 1, 0)
	refused(t, l, 1, ofAccount)
	begins(t, l, 0, 1)
	refused(t, l, 0, ofFunction)
	refused(t, l, 1, ofAccount)
}

func TestTheGreatestLimit(t *testing.T) {
	l := of(t, 1000, 0)
	begins(t, l, 0, 1000)
	refused(t, l, 0, ofAccount)
	stands(t, l, 1, 1000, 0, 1000)
	l = of(t, 1000, 1000, 0)
	begins(t, l, 0, 1000)
	refused(t, l, 0, ofFunction)
	refused(t, l, 1, ofAccount)
	ends(t, l, 0, 1000)
	stands(t, l, 1, 1000, 1000, 0)
	l = of(t, 1000, 999, 0)
	begins(t, l, 1, 1)
	refused(t, l, 1, ofAccount)
	begins(t, l, 0, 999)
	refused(t, l, 0, ofFunction)
}

// Where both hold, the function's reason is told.
func TestTheFunctionAheadOfTheAccount(t *testing.T) {
	l := of(t, 2, 2)
	begins(t, l, 0, 2)
	refused(t, l, 0, ofFunction)
	l = of(t, 5, 0, 0)
	begins(t, l, 0, 2)
	begins(t, l, 1, 3)
	function(t, l, 0, 1, 2, api.OK)
	refused(t, l, 0, ofFunction)
	function(t, l, 0, 1, 1, api.OK)
	refused(t, l, 0, ofFunction)
	function(t, l, 0, 1, 3, api.OK)
	refused(t, l, 0, ofAccount)
}

// A function with some reserved is held against the limit as well, where others run beyond what is theirs.
func TestReservedButNoneLeft(t *testing.T) {
	l := of(t, 4, 0, 0)
	begins(t, l, 1, 3)
	function(t, l, 0, 1, 3, api.OK)
	begins(t, l, 0, 1)
	refused(t, l, 0, ofAccount)
	refused(t, l, 1, ofAccount)
	ends(t, l, 1, 1)
	begins(t, l, 0, 1)
	refused(t, l, 0, ofAccount)
	ends(t, l, 1, 1)
	// 1 of 1 that isn't reserved runs.
	refused(t, l, 1, ofAccount)
	begins(t, l, 0, 1)
	refused(t, l, 0, ofFunction)
	ends(t, l, 1, 1)
	begins(t, l, 1, 1)
}

// Calls that run go with their function from those without reserved ones to those with some, and back.
func TestCallsGoWithTheirFunction(t *testing.T) {
	l := of(t, 6, 0, 0)
	begins(t, l, 0, 3)
	begins(t, l, 1, 2)
	function(t, l, 0, 1, 4, api.OK)
	refused(t, l, 1, ofAccount)
	function(t, l, 0, 1, 3, api.OK)
	// Of 3 that aren't reserved 2 run.
	asked(t, l, 1, free)
	refused(t, l, 0, ofFunction)
	ends(t, l, 0, 2)
	begins(t, l, 1, 1)
	refused(t, l, 1, ofAccount)
	function(t, l, 0, 1, 0, api.OK)
	asked(t, l, 0, free)
	asked(t, l, 1, free)
	begins(t, l, 0, 2)
	refused(t, l, 0, ofAccount)
	refused(t, l, 1, ofAccount)
}

func TestAccountsApart(t *testing.T) {
	l := quota.New()
	account(t, l, 0, 2, api.OK)
	account(t, l, 1, 3, api.OK)
	account(t, l, 15, 1000, api.OK)
	function(t, l, 0, 0, 0, api.OK)
	function(t, l, 1, 0, 1, api.OK)
	function(t, l, 2, 1, 2, api.OK)
	function(t, l, 3, 1, 0, api.OK)
	function(t, l, 63, 15, 0, api.OK)
	begins(t, l, 63, 900)
	begins(t, l, 0, 1)
	begins(t, l, 1, 1)
	refused(t, l, 0, ofAccount)
	refused(t, l, 1, ofFunction)
	stands(t, l, 1, 3, 2, 0)
	begins(t, l, 3, 1)
	refused(t, l, 3, ofAccount)
	begins(t, l, 2, 2)
	stands(t, l, 0, 2, 1, 2)
	stands(t, l, 1, 3, 2, 3)
	stands(t, l, 15, 1000, 0, 900)
	ends(t, l, 0, 1)
	refused(t, l, 3, ofAccount)
	account(t, l, 15, 0, api.OK)
	refused(t, l, 63, ofAccount)
	asked(t, l, 0, free)
	account(t, l, 0, 1, api.OK)
	stands(t, l, 1, 3, 2, 3)
}

func TestTwoLedgersApart(t *testing.T) {
	a, b := of(t, 2, 0), of(t, 2, 0)
	begins(t, a, 0, 2)
	stands(t, b, 1, 2, 0, 0)
	begins(t, b, 0, 1)
	function(t, b, 1, 1, 1, api.OK)
	noFunction(t, a, 1)
	refused(t, a, 0, ofAccount)
	if quota.New().Busy(0) != 0 {
		t.Error("a new ledger has calls")
	}
}

// Of a Ledger that New didn't make only that no call panics is promised.
func TestBare(t *testing.T) {
	var l quota.Ledger
	noFunction(t, &l, 0)
	noAccount(t, &l, 0)
	function(t, &l, 0, 0, 0, api.ErrNone)
	account(t, &l, 0, 1, api.OK)
	function(t, &l, 0, 0, 0, api.OK)
	begins(t, &l, 0, 1)
}

// P11.3

func TestALimitThatWasLowered(t *testing.T) {
	l := of(t, 8, 2, 0)
	begins(t, l, 0, 1)
	begins(t, l, 1, 6)
	account(t, l, 1, 4, api.OK)
	stands(t, l, 1, 4, 2, 7)
	for range 3 {
		refused(t, l, 0, ofAccount)
		refused(t, l, 1, ofAccount)
		ends(t, l, 1, 1)
	}
	// 4 run, of 4; 3 without reserved ones, of 2.
	refused(t, l, 0, ofAccount)
	refused(t, l, 1, ofAccount)
	ends(t, l, 1, 1)
	asked(t, l, 0, free)
	refused(t, l, 1, ofAccount)
	ends(t, l, 1, 1)
	begins(t, l, 1, 1)
	begins(t, l, 0, 1)
	refused(t, l, 0, ofFunction)
	refused(t, l, 1, ofAccount)
	stands(t, l, 1, 4, 2, 4)
}

func TestALimitLoweredToNothing(t *testing.T) {
	l := of(t, 3, 0)
	begins(t, l, 0, 3)
	account(t, l, 1, 0, api.OK)
	for range 3 {
		refused(t, l, 0, ofAccount)
		ends(t, l, 0, 1)
	}
	refused(t, l, 0, ofAccount)
	account(t, l, 1, 1, api.OK)
	begins(t, l, 0, 1)
	refused(t, l, 0, ofAccount)
}

func TestReservedThatWereLowered(t *testing.T) {
	l := of(t, 8, 5, 0)
	begins(t, l, 0, 5)
	function(t, l, 0, 1, 2, api.OK)
	stands(t, l, 1, 8, 2, 5)
	for range 4 {
		refused(t, l, 0, ofFunction)
		ends(t, l, 0, 1)
	}
	begins(t, l, 0, 1)
	refused(t, l, 0, ofFunction)
	// What is no longer reserved is there for the other one.
	begins(t, l, 1, 6)
	refused(t, l, 1, ofAccount)
}

// More that is reserved for one is less for those without: none of these begins till fewer run.
func TestReservedThatWereRaised(t *testing.T) {
	l := of(t, 8, 1, 0, 0)
	begins(t, l, 1, 4)
	begins(t, l, 2, 2)
	function(t, l, 0, 1, 4, api.OK)
	for range 2 {
		refused(t, l, 1, ofAccount)
		refused(t, l, 2, ofAccount)
		ends(t, l, 1, 1)
	}
	refused(t, l, 1, ofAccount)
	refused(t, l, 2, ofAccount)
	begins(t, l, 0, 4)
	refused(t, l, 0, ofFunction)
	ends(t, l, 2, 1)
	begins(t, l, 1, 1)
	refused(t, l, 2, ofAccount)
	stands(t, l, 1, 8, 4, 8)
}

// model is a ledger by the chapter's words: each call that runs stands in a list.
type model struct {
	limits map[int]int
	funcs  map[int]struct{ of, reserved int }
	calls  []int
}

func newModel() *model {
	return &model{limits: map[int]int{}, funcs: map[int]struct{ of, reserved int }{}}
}

func (m *model) reserved(a int) int {
	n := 0
	for _, fn := range m.funcs {
		if fn.of == a {
			n += fn.reserved
		}
	}
	return n
}

// count is how many calls run of functions such as are asked for.
func (m *model) count(is func(f int) bool) int {
	n := 0
	for _, f := range m.calls {
		if is(f) {
			n++
		}
	}
	return n
}

func (m *model) busy(f int) int {
	return m.count(func(g int) bool { return g == f })
}

func (m *model) run(a int) int {
	return m.count(func(g int) bool { return m.funcs[g].of == a })
}

func (m *model) shared(a int) int {
	return m.count(func(g int) bool { return m.funcs[g].of == a && m.funcs[g].reserved == 0 })
}

func (m *model) setAccount(a, limit int) api.Errno {
	switch {
	case a < 0 || a >= 16 || limit < 0 || limit > 1000:
		return api.ErrArg
	case m.reserved(a) > limit:
		return api.ErrQuota
	}
	m.limits[a] = limit
	return api.OK
}

func (m *model) setFunc(f, a, reserved int) api.Errno {
	limit, there := m.limits[a]
	was, known := m.funcs[f]
	switch {
	case f < 0 || f >= 64 || a < 0 || a >= 16 || reserved < 0 || reserved > 1000:
		return api.ErrArg
	case !there:
		return api.ErrNone
	case known && was.of != a:
		return api.ErrState
	}
	m.funcs[f] = struct{ of, reserved int }{a, reserved}
	if m.reserved(a) > limit {
		delete(m.funcs, f)
		if known {
			m.funcs[f] = was
		}
		return api.ErrQuota
	}
	return api.OK
}

func (m *model) ask(f int) (quota.Reason, bool) {
	fn, ok := m.funcs[f]
	limit := m.limits[fn.of]
	switch {
	case !ok:
		return free, false
	case fn.reserved > 0 && m.busy(f) >= fn.reserved:
		return ofFunction, true
	case m.run(fn.of) >= limit:
		return ofAccount, true
	case fn.reserved == 0 && m.shared(fn.of) >= limit-m.reserved(fn.of):
		return ofAccount, true
	}
	return free, true
}

func (m *model) begin(f int) bool {
	why, ok := m.ask(f)
	if ok && why == free {
		m.calls = append(m.calls, f)
		return true
	}
	return false
}

func (m *model) end(f int) bool {
	for i, g := range m.calls {
		if g == f {
			m.calls = append(m.calls[:i:i], m.calls[i+1:]...)
			return true
		}
	}
	return false
}

// agree holds all that a ledger tells of these against the model.
func agree(t *testing.T, name string, l *quota.Ledger, m *model, accounts, funcs []int) {
	t.Helper()
	for _, a := range accounts {
		limit, reserved, run, ok := l.Account(a)
		want, there := m.limits[a]
		if ok != there || limit != want || reserved != m.reserved(a) || there && run != m.run(a) || !there && run != 0 {
			t.Fatalf("%s: Account(%d) is %d, %d, %d, %v of %v", name, a, limit, reserved, run, ok, m)
		}
	}
	for _, f := range funcs {
		why, ok := l.Ask(f)
		if want, there := m.ask(f); why != want || ok != there || l.Busy(f) != m.busy(f) {
			t.Fatalf("%s: Ask(%d) is %d, %v, Busy %d of %v, want %d, %v", name, f, why, ok, l.Busy(f), m, want, there)
		}
	}
}

// same does one call to both, and sees that they tell the same.
func same(t *testing.T, name string, l *quota.Ledger, m *model, kind, f, a, n int) {
	t.Helper()
	switch kind {
	case 0:
		if got, want := l.SetAccount(a, n), m.setAccount(a, n); got != want {
			t.Fatalf("%s: SetAccount(%d, %d) is %q, want %q of %v", name, a, n, got.Word(), want.Word(), m)
		}
	case 1:
		if got, want := l.SetFunc(f, a, n), m.setFunc(f, a, n); got != want {
			t.Fatalf("%s: SetFunc(%d, %d, %d) is %q, want %q of %v", name, f, a, n, got.Word(), want.Word(), m)
		}
	case 2:
		if got, want := l.Begin(f), m.begin(f); got != want {
			t.Fatalf("%s: Begin(%d) is %v of %v", name, f, got, m)
		}
	case 3:
		if got, want := l.End(f), m.end(f); got != want {
			t.Fatalf("%s: End(%d) is %v of %v", name, f, got, m)
		}
	}
}

func TestAtRandomByTheModel(t *testing.T) {
	accounts, funcs := []int{-1, 0, 1, 14, 15, 16}, []int{-1, 0, 1, 2, 3, 62, 63, 64}
	for seed := range int64(300) {
		r := rand.New(rand.NewSource(seed))
		pick := func(list []int) int { return list[r.Intn(len(list))] }
		// Few numbers, so that bounds are met often; now and then ones at the greatest limit.
		numbers := [][]int{{-1, 0, 0, 1, 1, 2, 3, 4}, {0, 1, 2, 5, 8}, {0, 1, 499, 500, 501, 999, 1000, 1001}}[seed%3]
		l, m := quota.New(), newModel()
		name := fmt.Sprint("seed ", seed)
		sets := 2 + r.Intn(8)
		for range 250 {
			kind := 2 + r.Intn(5)/3
			if r.Intn(10) < sets {
				kind = r.Intn(2)
			}
			same(t, name, l, m, kind, pick(funcs), pick(accounts), pick(numbers))
			agree(t, name, l, m, accounts, funcs)
		}
	}
}

// Every row of four calls, of two functions with small numbers, where an account is there and a call of one runs.
func TestAllShortRows(t *testing.T) {
	type call struct{ kind, f, a, n int }
	var kinds []call
	for n := range 3 {
		kinds = append(kinds, call{0, 0, 0, n}, call{1, 0, 0, n}, call{1, 1, 0, n})
	}
	for f := range 2 {
		kinds = append(kinds, call{2, f, 0, 0}, call{3, f, 0, 0})
	}
	accounts, funcs := []int{0, 1}, []int{0, 1}
	var next func(row []call)
	next = func(row []call) {
		if len(row) < 4 {
			for _, c := range kinds {
				next(append(row[:len(row):len(row)], c))
			}
			return
		}
		name := fmt.Sprint("row ", row)
		l, m := quota.New(), newModel()
		same(t, name, l, m, 0, 0, 0, 2)
		same(t, name, l, m, 1, 1, 0, 0)
		same(t, name, l, m, 2, 1, 0, 0)
		for _, c := range row {
			same(t, name, l, m, c.kind, c.f, c.a, c.n)
		}
		agree(t, name, l, m, accounts, funcs)
	}
	next(nil)
}

// plan is what was set: the function f is of the account f%3.
type plan struct {
	limits   [3]int
	reserved [9]int
}

// set sets an account or a function to n, and notes it where that was taken.
func (p *plan) set(l *quota.Ledger, f, n int, whole bool) {
	if whole && l.SetAccount(f%3, n) == api.OK {
		p.limits[f%3] = n
	}
	if !whole && l.SetFunc(f, f%3, n) == api.OK {
		p.reserved[f] = n
	}
}

// passed tells of which bound that f is asked against more run than may, by what Busy says.
func (p *plan) passed(l *quota.Ledger, f int) string {
	run, shared, left := 0, 0, p.limits[f%3]
	for g := f % 3; g < 9; g += 3 {
		run += l.Busy(g)
		left -= p.reserved[g]
		if p.reserved[g] == 0 {
			shared += l.Busy(g)
		}
	}
	switch {
	case p.reserved[f] > 0 && l.Busy(f) > p.reserved[f]:
		return "the function's"
	case run > p.limits[f%3]:
		return "the account's"
	case p.reserved[f] == 0 && shared > left:
		return "that of those without reserved ones"
	}
	return ""
}

// planned is a ledger as it was set at random, in which none runs.
func planned(r *rand.Rand) (*quota.Ledger, *plan) {
	l, p := quota.New(), &plan{}
	for f := range p.reserved {
		if f < 3 {
			p.set(l, f, 0, true)
		}
		p.set(l, f, 0, false)
	}
	for range 40 {
		p.set(l, r.Intn(9), r.Intn(12), r.Intn(2) == 0)
	}
	return l, p
}

func TestNoBoundIsPassedWhileNothingIsSet(t *testing.T) {
	for seed := range int64(300) {
		r := rand.New(rand.NewSource(seed))
		l, p := planned(r)
		for range 200 {
			if f := r.Intn(9); r.Intn(4) > 0 {
				l.Begin(f)
			} else {
				l.End(f)
			}
			for f := range p.reserved {
				if which := p.passed(l, f); which != "" {
					t.Fatalf("seed %d: a bound of %d is passed, %s: %v", seed, f, which, p)
				}
			}
		}
	}
}

func TestNoneBeginsBeyondABoundBehindASet(t *testing.T) {
	for seed := range int64(300) {
		r := rand.New(rand.NewSource(seed))
		l, p := planned(r)
		for range 400 {
			f := r.Intn(9)
			switch r.Intn(8) {
			case 0:
				p.set(l, f, r.Intn(12), r.Intn(2) == 0)
			case 1, 2:
				l.End(f)
			default:
				if !l.Begin(f) {
					continue
				}
				if which := p.passed(l, f); which != "" {
					t.Fatalf("seed %d: a call of %d began beyond a bound, %s: %v", seed, f, which, p)
				}
			}
		}
	}
}
