package chart_test

import (
	"errors"
	"math"
	"math/rand/v2"
	"slices"
	"strconv"
	"strings"
	"sync"
	"testing"

	"trivet/api"
	"trivet/chart"
)

// row is what the chapter's table tells of a kind.
type row struct {
	kind    int
	name    string
	nobodys bool
	debit   bool
}

// rows are all, the kinds' numbers as the chapter writes them.
var rows = []row{
	{1, "cash", true, true},
	{2, "trust", true, true},
	{3, "own", true, true},
	{4, "investor", false, false},
	{5, "escrow", false, false},
	{6, "suspense", false, false},
	{7, "advance", false, true},
	{8, "fee", false, false},
	{9, "guaranty", false, false},
	{10, "late", false, false},
	{11, "principal", false, false},
	{12, "loan", false, true},
}

// last is the greatest Of.
const last = 65536

// far are numbers outside of all limits, some of which would be inside, had they fewer bits.
var far = []int{
	math.MinInt, math.MinInt + 1, math.MinInt32, -1 << 16, 1<<16 + 1, 1 << 17, 1<<31 - 1, math.MaxInt - 1, math.MaxInt,
	math.MinInt + 5, 1<<16 + 5, 1<<24 + 5,
}

// account is short for one.
func account(kind, of int) api.Account { return api.Account{Kind: kind, Of: of} }

// model are all accounts there are, by their names.
var model = sync.OnceValue(func() map[string]api.Account {
	m := make(map[string]api.Account)
	for _, r := range rows {
		if r.nobodys {
			m[r.name] = account(r.kind, 0)
			continue
		}
		for of := 1; of <= last; of++ {
			m[r.name+"."+strconv.Itoa(of)] = account(r.kind, of)
		}
	}
	return m
})

// noAccounts are none: of a kind that isn't there, of somebody where it is nobody's, of nobody
// where it isn't, and of more than there are.
func noAccounts() []api.Account {
	l := []api.Account{account(0, 0), account(0, 1), account(13, 0), account(13, 1), account(-1, 0), account(-5, 7)}
	for _, n := range far {
		l = append(l, account(n, 0), account(n, 1), account(n, last), account(n, n))
	}
	for _, r := range rows {
		for _, of := range append([]int{-1, -7, last + 1, 10 * last}, far...) {
			l = append(l, account(r.kind, of))
		}
		if r.nobodys {
			l = append(l, account(r.kind, 1), account(r.kind, 7), account(r.kind, last))
		} else {
			l = append(l, account(r.kind, 0))
		}
	}
	return l
}

// checkName asks for an account's name.
func checkName(t *testing.T, a api.Account, want string, wanted error) {
	t.Helper()
	if s, err := chart.Name(a); s != want || err != wanted {
		t.Errorf("Name(%v): got %q, %v; want %q, %v", a, s, err, want, wanted)
	}
}

// checkParse asks for a name's account; where there is none, for that error.
func checkParse(t *testing.T, s string, want api.Account, there bool) {
	t.Helper()
	var wanted error
	if !there {
		want, wanted = api.Account{}, api.ErrForm
	}
	if a, err := chart.Parse(s); a != want || err != wanted {
		t.Errorf("Parse(%.80q): got %v, %v; want %v, %v", s, a, err, want, wanted)
	}
}

// P9.2: the chapter's example, and back.
func TestExample(t *testing.T) {
	checkName(t, account(api.AccEscrow, 7), "escrow.7", nil)
	checkParse(t, "escrow.7", account(api.AccEscrow, 7), true)
}

// P9.1, P9.2: each kind by its constant's name, at both ends of what it is of.
func TestKinds(t *testing.T) {
	of := map[int]string{
		api.AccInvestor: "investor", api.AccEscrow: "escrow", api.AccSuspense: "suspense", api.AccAdvance: "advance",
		api.AccFee: "fee", api.AccGuaranty: "guaranty", api.AccLate: "late", api.AccPrincipal: "principal", api.AccLoan: "loan",
	}
	for kind, name := range of {
		checkName(t, account(kind, 1), name+".1", nil)
		checkName(t, account(kind, 10), name+".10", nil)
		checkName(t, account(kind, 4096), name+".4096", nil)
		checkName(t, account(kind, api.MaxOf), name+".65536", nil)
	}
	checkName(t, account(api.AccCash, 0), "cash", nil)
	checkName(t, account(api.AccTrust, 0), "trust", nil)
	checkName(t, account(api.AccOwn, 0), "own", nil)
}

// P9.1: which accounts there are, and which are of the debit side: all of the kinds that there
// are, and of some beside them, with all that they could be of and more.
func TestMayAndDebit(t *testing.T) {
	for kind := -20; kind <= 40; kind++ {
		var r row
		known := kind >= 1 && kind <= len(rows)
		if known {
			r = rows[kind-1]
		}
		for of := -last - 10; of <= 2*last+10; of++ {
			may := known && (r.nobodys && of == 0 || !r.nobodys && of >= 1 && of <= last)
			if got := chart.May(account(kind, of)); got != may {
				t.Fatalf("May(%d of %d): got %v", kind, of, got)
			}
			if got := chart.Debit(account(kind, of)); got != (may && r.debit) {
				t.Fatalf("Debit(%d of %d): got %v", kind, of, got)
			}
		}
	}
}

// P9.1, P9.2: what is no account isn't there, has no side and no name.
func TestNoAccounts(t *testing.T) {
	for _, a := range noAccounts() {
		if chart.May(a) {
			t.Errorf("May(%v): got true", a)
		}
		if chart.Debit(a) {
			t.Errorf("Debit(%v): got true", a)
		}
		checkName(t, a, "", api.ErrArg)
	}
}

// P9.2, P9.3: all accounts have their names, and all names their accounts.
func TestAllNames(t *testing.T) {
	for name, a := range model() {
		checkName(t, a, name, nil)
		checkParse(t, name, a, true)
	}
}

// P9.2: what looks like a name, and is none.
func TestParseWrong(t *testing.T) {
	for _, s := range []string{
		"", " ", ".", "..", ".1", ".0", "1", "7", "escrow", "escrow.", "escrow.0", "escrow.00", "escrow.07", "escrow.007",
		"escrow.+7", "escrow.-7", "escrow.-0", "escrow. 7", "escrow.7 ", " escrow.7", "escrow .7", "escrow.7.", "escrow..7",
		"escrow.7.7", "escrow,7", "escrow7", "escrow.7\n", "escrow.7\x00", "escrow.7x", "escrow.x", "escrow.0x7", "escrow.0b1",
		"escrow.1_0", "escrow.1e1", "escrow.7.0", "escrow.65537", "escrow.65600", "escrow.99999", "escrow.100000", "escrow.065536",
		"escrow.4294967303", "escrow.18446744073709551623", "escrow.9223372036854775807", "escrow.9223372036854775808",
		"Escrow.7", "ESCROW.7", "escro.7", "escrows.7", "escrow.escrow", "5.7", "5", "escrow.٧", "escrow.７", "ｅscrow.7", "escrow。7",
		"cash.", "cash.0", "cash.1", "cash.cash", "cash.x", "cash.-0", "cash.00", "Cash", "cash ", " cash", "cas", "cashcash", "cash\x00",
		"cash.99999999999999999999", "trust.1", "trust.0", "own.", "own.0", "own.1", "loan", "loan.0", "loan.65537", "loan.-1",
		"x", "x.1", "nobody", "reserve.1", "loans.1", "principal", "interest.1", "late fee.1", "\xff", "escrow.\xff", "\xff.7",
	} {
		checkParse(t, s, api.Account{}, false)
	}
	for _, r := range rows {
		if !r.nobodys {
			checkParse(t, r.name, api.Account{}, false)
			checkParse(t, r.name+".", api.Account{}, false)
			checkParse(t, r.name+".0", api.Account{}, false)
			checkParse(t, r.name+".65537", api.Account{}, false)
			continue
		}
		for of := range 100 {
			checkParse(t, r.name+"."+strconv.Itoa(of), api.Account{}, false)
		}
	}
}

// P9.2: texts that are very long.
func TestParseLong(t *testing.T) {
	for _, piece := range []string{"0", "1", "9", ".", "x", "cash", "escrow.7", " ", "\xff"} {
		long := strings.Repeat(piece, 1<<20)
		for _, front := range []string{"", "cash", "cash.", "escrow", "escrow.", "escrow.7", "loan.-"} {
			checkParse(t, front+long, api.Account{}, false)
			checkParse(t, long+front, api.Account{}, false)
		}
	}
}

// P9.2: around some names, each with one byte more, one fewer or another one.
func TestParseNeighbours(t *testing.T) {
	all := model()
	check := func(s string) {
		t.Helper()
		a, there := all[s]
		checkParse(t, s, a, there)
	}
	for _, s := range []string{"cash", "trust", "own", "escrow.7", "investor.10", "late.6553", "loan.65536", "fee.1", "principal.60000"} {
		for i := range len(s) + 1 {
			for c := range 256 {
				check(s[:i] + string([]byte{byte(c)}) + s[i:])
				if i < len(s) {
					check(s[:i] + string([]byte{byte(c)}) + s[i+1:])
				}
			}
			if i < len(s) {
				check(s[:i] + s[i+1:])
			}
		}
	}
}

// P9.2, P9.3: pieces of names, put together anyhow, are just the names that they are.
func TestParsePieces(t *testing.T) {
	all := model()
	pieces := []string{"", ".", ".", ".", "0", "1", "6", "7", "65536", "65537", "+", "-", " ", "x"}
	for _, r := range rows {
		pieces = append(pieces, r.name)
	}
	r := rand.New(rand.NewPCG(9, 1))
	names := 0
	for range 500000 {
		s := rows[r.IntN(len(rows))].name[r.IntN(8)/7:]
		for range r.IntN(5) {
			s += pieces[r.IntN(len(pieces))]
		}
		a, there := all[s]
		checkParse(t, s, a, there)
		if there {
			names++
			checkName(t, a, s, nil)
		}
	}
	if names < 1000 {
		t.Errorf("only %d of them were names", names)
	}
}

// someAccounts are such as there are and such as there aren't: Less has an order of all of them.
func someAccounts() []api.Account {
	l := append(noAccounts(), account(1, 0), account(2, 0), account(3, 0))
	for kind := 4; kind <= 12; kind++ {
		for _, of := range []int{1, 2, 9, 10, 11, 100, last - 1, last} {
			l = append(l, account(kind, of))
		}
	}
	return l
}

// P9.1: ordinary pairs: by Kind first, and only then by Of, as numbers.
func TestLess(t *testing.T) {
	for _, x := range []struct {
		a, b api.Account
		want bool
	}{
		{account(4, 9), account(5, 1), true}, {account(5, 1), account(4, 9), false},
		{account(5, 1), account(5, 2), true}, {account(5, 2), account(5, 1), false}, {account(5, 2), account(5, 2), false},
		{account(5, 9), account(5, 10), true}, {account(5, 10), account(5, 9), false},
		{account(1, 0), account(2, 0), true}, {account(2, 0), account(10, 1), true}, {account(10, 1), account(2, 0), false},
		{account(1, 0), account(1, 0), false}, {account(12, 1), account(11, last), false}, {account(11, last), account(12, 1), true},
		{account(0, 0), account(1, 0), true}, {account(13, 0), account(12, last), false}, {account(-1, 5), account(0, 0), true},
		{account(5, -1), account(5, 0), true}, {account(5, last), account(5, last+1), true},
		{account(math.MinInt, 0), account(math.MaxInt, 0), true}, {account(math.MaxInt, 0), account(math.MinInt, 0), false},
		{account(5, math.MinInt), account(5, math.MaxInt), true}, {account(5, math.MaxInt), account(5, math.MinInt), false},
	} {
		if got := chart.Less(x.a, x.b); got != x.want {
			t.Errorf("Less(%v, %v): got %v", x.a, x.b, got)
		}
	}
}

// P9.1, P9.3: of all pairs: one that isn't the other stands ahead or behind; none ahead of itself.
func TestLessOfAllPairs(t *testing.T) {
	for _, a := range someAccounts() {
		for _, b := range someAccounts() {
			want := a.Kind < b.Kind || a.Kind == b.Kind && a.Of < b.Of
			if got := chart.Less(a, b); got != want {
				t.Errorf("Less(%v, %v): got %v", a, b, got)
			}
			ahead, behind := chart.Less(a, b), chart.Less(b, a)
			if ahead && behind || (ahead || behind) != (a != b) {
				t.Errorf("of %v and %v: ahead %v, behind %v", a, b, ahead, behind)
			}
		}
	}
}

// P9.3: put in order by it, each stands ahead of all behind it.
func TestLessSorts(t *testing.T) {
	l := someAccounts()
	r := rand.New(rand.NewPCG(9, 2))
	r.Shuffle(len(l), func(i, j int) { l[i], l[j] = l[j], l[i] })
	slices.SortFunc(l, func(a, b api.Account) int {
		switch {
		case chart.Less(a, b):
			return -1
		case chart.Less(b, a):
			return 1
		}
		return 0
	})
	l = slices.Compact(l)
	for i := range l {
		for j := i + 1; j < len(l); j++ {
			if !chart.Less(l[i], l[j]) {
				t.Errorf("%v stands ahead of %v", l[i], l[j])
			}
		}
	}
}

// Errors are found by errors.Is, as all of the program's are.
func TestErrorsAreFound(t *testing.T) {
	_, name := chart.Name(api.Account{})
	_, parse := chart.Parse("")
	if !errors.Is(name, api.ErrArg) || !errors.Is(parse, api.ErrForm) {
		t.Errorf("got %v, %v", name, parse)
	}
}
