package book_test

import (
	"errors"
	"math"
	"math/big"
	"math/rand/v2"
	"slices"
	"testing"

	"trivet/api"
	"trivet/book"
	"trivet/chart"
)

const (
	least    = math.MinInt64
	greatest = math.MaxInt64
)

// Accounts of which the tests speak, in their order.
var (
	cash      = api.Account{Kind: api.AccCash}
	trust     = api.Account{Kind: api.AccTrust}
	own       = api.Account{Kind: api.AccOwn}
	investor  = api.Account{Kind: api.AccInvestor, Of: 64}
	escrow    = api.Account{Kind: api.AccEscrow, Of: 7}
	escrow8   = api.Account{Kind: api.AccEscrow, Of: 8}
	escrow10  = api.Account{Kind: api.AccEscrow, Of: 10}
	suspense7 = api.Account{Kind: api.AccSuspense, Of: 7}
	principal = api.Account{Kind: api.AccPrincipal, Of: 1}
	loan      = api.Account{Kind: api.AccLoan, Of: api.MaxOf}
)

// some are all of them.
func some() []api.Account {
	return []api.Account{cash, trust, own, investor, escrow, escrow8, escrow10, suspense7, principal, loan}
}

// noAccounts aren't there.
func noAccounts() []api.Account {
	return []api.Account{
		{}, {Kind: 0, Of: 7}, {Kind: -1}, {Kind: 13}, {Kind: 13, Of: 7}, {Kind: api.AccCash, Of: 1}, {Kind: api.AccCash, Of: -1},
		{Kind: api.AccOwn, Of: 7}, {Kind: api.AccEscrow}, {Kind: api.AccEscrow, Of: -7}, {Kind: api.AccEscrow, Of: api.MaxOf + 1},
		{Kind: api.AccLoan}, {Kind: api.AccLoan, Of: math.MaxInt}, {Kind: math.MinInt, Of: math.MinInt}, {Kind: math.MaxInt, Of: 1},
	}
}

// line is short for one.
func line(a api.Account, amount int64) api.Line { return api.Line{Account: a, Amount: amount} }

// lines are an entry's.
func lines(l ...api.Line) []api.Line { return l }

// model is the books as the chapter's words say them: no more than their entries; all else is
// reckoned from these by numbers that never go round.
type model struct {
	entries [][]api.Line
	settled []bool // it was reversed, or reverses one
}

// exact is an account's balance.
func (m *model) exact(a api.Account) *big.Int {
	sum := new(big.Int)
	for _, l := range m.entries {
		for _, x := range l {
			if x.Account == a {
				sum.Add(sum, big.NewInt(x.Amount))
			}
		}
	}
	return sum
}

// trial are all balances that aren't 0.
func (m *model) trial() []api.Line {
	var all []api.Account
	for _, l := range m.entries {
		for _, x := range l {
			all = append(all, x.Account)
		}
	}
	slices.SortFunc(all, func(a, b api.Account) int {
		if a.Kind != b.Kind {
			return a.Kind - b.Kind
		}
		return a.Of - b.Of
	})
	var trial []api.Line
	for _, a := range slices.Compact(all) {
		if sum := m.exact(a); sum.Sign() != 0 {
			trial = append(trial, line(a, sum.Int64()))
		}
	}
	return trial
}

// wrong is what Post answers of these, or nil.
func (m *model) wrong(l []api.Line) error {
	if len(m.entries) == 4096 {
		return api.ErrFull
	}
	if len(l) == 0 || len(l) > 32 {
		return api.ErrArg
	}
	sum := new(big.Int)
	for _, x := range l {
		if !chart.May(x.Account) || x.Amount == 0 {
			return api.ErrArg
		}
		sum.Add(sum, big.NewInt(x.Amount))
	}
	if sum.Sign() != 0 {
		return api.ErrForm
	}
	for i, x := range l {
		balance := m.exact(x.Account)
		for _, y := range l[:i+1] {
			if y.Account == x.Account {
				balance.Add(balance, big.NewInt(y.Amount))
			}
		}
		if !balance.IsInt64() || x.Amount == least {
			return api.ErrOver
		}
	}
	return nil
}

// post posts them.
func (m *model) post(l []api.Line) (int, error) {
	if err := m.wrong(l); err != nil {
		return 0, err
	}
	m.entries = append(m.entries, slices.Clone(l))
	m.settled = append(m.settled, false)
	return len(m.entries) - 1, nil
}

// reverse reverses one.
func (m *model) reverse(n int) (int, error) {
	if n < 0 || n >= len(m.entries) {
		return 0, api.ErrNone
	}
	if m.settled[n] {
		return 0, api.ErrTwice
	}
	place, err := m.post(negated(m.entries[n]))
	if err != nil {
		return 0, err
	}
	m.settled[n], m.settled[place] = true, true
	return place, nil
}

// clone is one that stands alike.
func (m *model) clone() *model {
	return &model{entries: slices.Clone(m.entries), settled: slices.Clone(m.settled)}
}

// negated are lines with all signs turned.
func negated(l []api.Line) []api.Line {
	k := slices.Clone(l)
	for i := range k {
		k[i].Amount = -k[i].Amount
	}
	return k
}

// both are books, and the model of them.
type both struct {
	b *book.Book
	m *model
}

// newBoth are without entries.
func newBoth() both { return both{book.New(), &model{}} }

// clone are both once more.
func (x both) clone() both { return both{x.b.Clone(), x.m.clone()} }

// post posts to both, which are to answer the same.
func (x both) post(t *testing.T, l ...api.Line) error {
	t.Helper()
	want, wanted := x.m.post(l)
	if n, err := x.b.Post(l...); n != want || err != wanted {
		t.Fatalf("Post(%v): got %d, %v; want %d, %v", l, n, err, want, wanted)
	}
	return wanted
}

// reverse reverses one of both, which are to answer the same.
func (x both) reverse(t *testing.T, n int) error {
	t.Helper()
	want, wanted := x.m.reverse(n)
	if place, err := x.b.Reverse(n); place != want || err != wanted {
		t.Fatalf("Reverse(%d): got %d, %v; want %d, %v", n, place, err, want, wanted)
	}
	return wanted
}

// check asks for all that the books tell.
func (x both) check(t *testing.T) {
	t.Helper()
	x.checkEntries(t)
	x.checkTrial(t)
}

// checkEntries asks for the entries, and for such as aren't there.
func (x both) checkEntries(t *testing.T) {
	t.Helper()
	if x.b.Len() != len(x.m.entries) {
		t.Fatalf("Len: got %d, want %d", x.b.Len(), len(x.m.entries))
	}
	for n, want := range x.m.entries {
		if l, err := x.b.Entry(n); !slices.Equal(l, want) || err != nil {
			t.Fatalf("Entry(%d): got %v, %v; want %v", n, l, err, want)
		}
	}
	for _, n := range []int{-1, -2, len(x.m.entries), len(x.m.entries) + 1, 4096, math.MinInt, math.MaxInt} {
		if n >= 0 && n < len(x.m.entries) {
			continue
		}
		if l, err := x.b.Entry(n); len(l) != 0 || err != api.ErrNone {
			t.Fatalf("Entry(%d): got %v, %v", n, l, err)
		}
		if place, err := x.b.Reverse(n); place != 0 || err != api.ErrNone {
			t.Fatalf("Reverse(%d): got %d, %v", n, place, err)
		}
	}
}

// checkTrial asks for the balances, for their sum, and for such as aren't there.
func (x both) checkTrial(t *testing.T) {
	t.Helper()
	want := x.m.trial()
	if l := x.b.Trial(); !slices.Equal(l, want) {
		t.Fatalf("Trial: got %v, want %v", l, want)
	}
	sum := new(big.Int)
	for _, y := range want {
		if got := x.b.Balance(y.Account); got != y.Amount {
			t.Fatalf("Balance(%v): got %d, want %d", y.Account, got, y.Amount)
		}
		sum.Add(sum, big.NewInt(y.Amount))
	}
	if sum.Sign() != 0 {
		t.Fatalf("balances sum to %v", sum)
	}
	for _, a := range some() {
		if got := x.b.Balance(a); got != x.m.exact(a).Int64() {
			t.Fatalf("Balance(%v): got %d, want %v", a, got, x.m.exact(a))
		}
	}
	for _, a := range noAccounts() {
		if got := x.b.Balance(a); got != 0 {
			t.Fatalf("Balance(%v): got %d", a, got)
		}
	}
}

// want posts, or is refused so, and asks for all.
func (x both) want(t *testing.T, wanted error, l ...api.Line) {
	t.Helper()
	if err := x.post(t, l...); err != wanted {
		t.Fatalf("Post(%v): got %v, want %v", l, err, wanted)
	}
	x.check(t)
}

// wantReverse reverses, or is refused so, and asks for all.
func (x both) wantReverse(t *testing.T, wanted error, n int) {
	t.Helper()
	if err := x.reverse(t, n); err != wanted {
		t.Fatalf("Reverse(%d): got %v, want %v", n, err, wanted)
	}
	x.check(t)
}

// full are books with all entries that there may be, the last of which was reversed by none.
func full(t *testing.T) both {
	t.Helper()
	x := newBoth()
	for n := range 4094 {
		x.post(t, line(cash, int64(n+1)), line(escrow, -int64(n+1)))
	}
	if err := x.reverse(t, 5); err != nil {
		t.Fatalf("Reverse(5): got %v", err)
	}
	x.post(t, line(cash, 1), line(loan, -1))
	return x
}

// P10.1, P10.3: the chapter's example.
func TestExample(t *testing.T) {
	b := book.New()
	of1 := api.Account{Kind: api.AccEscrow, Of: 1}
	if n, err := b.Post(line(cash, 5), line(of1, -5)); n != 0 || err != nil {
		t.Fatalf("Post: got %d, %v", n, err)
	}
	if l := b.Trial(); !slices.Equal(l, lines(line(cash, 5), line(of1, -5))) {
		t.Errorf("Trial: got %v", l)
	}
}

// P10.3: books without entries.
func TestNew(t *testing.T) {
	b := book.New()
	if b.Len() != 0 || len(b.Trial()) != 0 || b.Balance(cash) != 0 {
		t.Errorf("got %d entries, %v, %d", b.Len(), b.Trial(), b.Balance(cash))
	}
	newBoth().check(t)
}

// P10.1, P10.3: ordinary entries: their places, their lines as they were posted, and balances in order.
func TestOrdinaryEntries(t *testing.T) {
	x := newBoth()
	for n, l := range [][]api.Line{
		{line(loan, 100000), line(principal, -100000), line(trust, 250), line(escrow, -250)},
		{line(cash, 400), line(investor, -400)},
		{line(escrow10, -3), line(trust, 5), line(escrow8, -2)},
		{line(suspense7, 7), line(own, -7)},
		{line(cash, -400), line(investor, 400)},
	} {
		place, err := x.b.Post(l...)
		if want, _ := x.m.post(l); place != want || place != n || err != nil {
			t.Fatalf("Post(%v): got %d, %v; want %d", l, place, err, n)
		}
		x.check(t)
	}
	want := lines(line(trust, 255), line(own, -7), line(escrow, -250), line(escrow8, -2), line(escrow10, -3),
		line(suspense7, 7), line(principal, -100000), line(loan, 100000))
	if l := x.b.Trial(); !slices.Equal(l, want) {
		t.Errorf("Trial: got %v, want %v", l, want)
	}
}

// P10.1: an account may stand in an entry more than once, also so that nothing comes of it.
func TestOneAccountManyLines(t *testing.T) {
	x := newBoth()
	x.want(t, nil, line(cash, 5), line(cash, -5))
	x.want(t, nil, line(cash, 5), line(escrow, -9), line(cash, 6), line(escrow, -9), line(cash, 7))
	x.want(t, nil, line(cash, 1), line(cash, 1), line(cash, -2))
	x.want(t, nil, line(escrow, 18), line(cash, -18))
	if l := x.b.Trial(); len(l) != 0 {
		t.Errorf("Trial: got %v", l)
	}
}

// P10.1: each kind of account, at both ends of what it is of, has its balance, and all stand in order.
func TestAllKinds(t *testing.T) {
	x := newBoth()
	var l []api.Account
	for kind := api.AccLoan; kind >= api.AccCash; kind-- {
		for _, of := range []int{api.MaxOf, 2, 10, 1, 0} {
			if a := (api.Account{Kind: kind, Of: of}); chart.May(a) {
				l = append(l, a)
			}
		}
	}
	for i := range len(l) - 1 {
		x.post(t, line(l[i], int64(i)+1), line(l[i+1], -int64(i)-1))
	}
	x.check(t)
	trial := x.b.Trial()
	if len(trial) != len(l) {
		t.Errorf("got %d balances of %d accounts", len(trial), len(l))
	}
	for i := range len(trial) - 1 {
		if !chart.Less(trial[i].Account, trial[i+1].Account) {
			t.Errorf("%v stands ahead of %v", trial[i], trial[i+1])
		}
	}
}

// P10.1: all numbers of lines, up to some that are too many.
func TestNumbersOfLines(t *testing.T) {
	for n := range 70 {
		x := newBoth()
		l := make([]api.Line, n)
		for i := range l {
			l[i] = line(api.Account{Kind: api.AccEscrow, Of: i + 1}, 3)
		}
		var wanted error = api.ErrArg
		if n >= 2 && n <= 32 {
			l[n-1].Amount = -3 * int64(n-1)
			wanted = nil
		} else if n == 1 {
			wanted = api.ErrForm
		} else if n > 32 {
			l[n-1].Amount = -3 * int64(n-1) // they balance, and yet they are too many
		}
		x.want(t, wanted, l...)
	}
	x := newBoth()
	if n, err := x.b.Post(slices.Repeat(lines(line(cash, 1), line(cash, -1)), 100000)...); n != 0 || err != api.ErrArg {
		t.Errorf("200000 lines: got %d, %v", n, err)
	}
	x.check(t)
}

// P10.1: a line whose account isn't there, or whose amount is 0, at all places of an entry that balances.
func TestWrongLines(t *testing.T) {
	x := newBoth()
	x.want(t, nil, line(cash, 8), line(escrow, -8))
	good := lines(line(cash, 1), line(escrow, 2), line(trust, -5), line(loan, 2))
	for i := range good {
		for _, a := range noAccounts() {
			l := slices.Clone(good)
			l[i].Account = a
			x.want(t, api.ErrArg, l...)
		}
		for _, a := range some() {
			x.want(t, api.ErrArg, slices.Insert(slices.Clone(good), i, line(a, 0))...)
		}
	}
	x.want(t, api.ErrArg, line(cash, 0))
	x.want(t, api.ErrArg, line(cash, 0), line(escrow, 0))
	x.want(t, api.ErrArg, line(api.Account{}, 0))
	x.want(t, nil, good...)
}

// P10.1: lines that don't sum to 0, also such whose sum would go round to 0.
func TestUnbalanced(t *testing.T) {
	x := newBoth()
	x.want(t, nil, line(cash, 8), line(escrow, -8))
	for _, l := range [][]api.Line{
		{line(cash, 1)}, {line(cash, -1)}, {line(escrow, greatest)}, {line(escrow, least)},
		{line(cash, 1), line(escrow, 1)}, {line(cash, 1), line(escrow, -2)}, {line(cash, 2), line(escrow, -1)},
		{line(cash, -1), line(escrow, -1)}, {line(cash, 1), line(escrow, -1), line(trust, 1)}, {line(cash, 5), line(cash, -4)},
		{line(cash, greatest), line(escrow, greatest), line(trust, 2)},                      // 2^64
		{line(cash, 1<<62), line(escrow, 1<<62), line(trust, 1<<62), line(loan, 1<<62)},     // 2^64
		{line(cash, least), line(escrow, least)},                                            // -2^64
		{line(cash, -1<<62), line(escrow, -1<<62), line(trust, -1<<62), line(loan, -1<<62)}, // -2^64
		{line(cash, greatest), line(escrow, greatest), line(trust, greatest)},               // without room
		{line(cash, least), line(escrow, greatest)}, {line(cash, least), line(escrow, greatest), line(trust, 2)},
		slices.Repeat(lines(line(cash, 1<<59)), 32), slices.Repeat(lines(line(cash, -1<<59)), 32),
	} {
		x.want(t, api.ErrForm, l...)
	}
}

// P10.1: what has room though parts of its sum have none, and both ends of a balance's room.
func TestRoom(t *testing.T) {
	x := newBoth()
	x.want(t, nil, line(cash, greatest), line(trust, greatest), line(own, -greatest), line(loan, -greatest))
	x.want(t, api.ErrOver, line(cash, 1), line(escrow, -1))
	x.want(t, api.ErrOver, line(escrow, -1), line(cash, 1))
	x.want(t, nil, line(loan, -1), line(own, -1), line(escrow, 2))
	if got := x.b.Balance(loan); got != least {
		t.Fatalf("Balance: got %d", got)
	}
	x.want(t, api.ErrOver, line(loan, -1), line(escrow, 1))
	x.want(t, api.ErrOver, line(escrow, 1), line(loan, -1))
	x.want(t, api.ErrOver, line(loan, -greatest), line(escrow, greatest))
	x.want(t, nil, line(loan, 1), line(cash, -1))
	x.want(t, nil, line(loan, -1), line(cash, 1))
	x.want(t, api.ErrOver, line(cash, greatest), line(loan, -greatest))
	x.want(t, nil, line(cash, -greatest), line(loan, greatest))
	x.want(t, nil, line(trust, -greatest), line(own, greatest))
}

// P10.1: line by line: it matters what stands ahead, but not what would come behind.
func TestRoomLineByLine(t *testing.T) {
	x := newBoth()
	x.want(t, nil, line(cash, greatest), line(escrow, -greatest))
	x.want(t, api.ErrOver, line(cash, 1), line(cash, -1))
	x.want(t, nil, line(cash, -1), line(cash, 1))
	x.want(t, api.ErrOver, line(cash, 5), line(cash, -6), line(loan, 1))
	x.want(t, nil, line(cash, -6), line(cash, 5), line(loan, 1))
	x.want(t, nil, line(escrow, -1), line(loan, 1)) // now it is -2^63
	x.want(t, api.ErrOver, line(escrow, -1), line(escrow, 1))
	x.want(t, nil, line(escrow, 1), line(escrow, -1))
	x.want(t, api.ErrOver, line(escrow, 3), line(escrow, -4), line(loan, 1))
	x.want(t, api.ErrOver, line(loan, greatest), line(loan, -greatest))
	x.want(t, nil, line(loan, -greatest), line(loan, greatest))
	y := newBoth() // in an entry alone, of an account without lines
	y.want(t, api.ErrOver, line(cash, greatest), line(cash, 1), line(cash, -1), line(escrow, -greatest))
	y.want(t, nil, line(cash, greatest), line(cash, -1), line(cash, 1), line(escrow, -greatest))
	y.want(t, api.ErrOver, line(loan, -greatest), line(loan, -1), line(loan, -1), line(loan, 2), line(trust, greatest))
	y.want(t, nil, line(loan, -greatest), line(loan, -1), line(loan, 1), line(trust, greatest))
}

// P10.1: an amount of -2^63, which could not be turned, at all places, whatever room a balance has for it.
func TestLeastAmount(t *testing.T) {
	x := newBoth()
	x.want(t, nil, line(cash, greatest), line(escrow, -greatest))
	for i := range 3 {
		l := lines(line(trust, 1<<62), line(own, 1<<62))
		x.want(t, api.ErrOver, slices.Insert(slices.Clone(l), i, line(cash, least))...)
		x.want(t, api.ErrOver, slices.Insert(slices.Clone(l), i, line(loan, least))...)
	}
	x.want(t, nil, line(trust, 1<<62), line(own, 1<<62), line(loan, -greatest), line(loan, -1))
}

// P10.1, R1: of several errors the one that is named first.
func TestFirstError(t *testing.T) {
	x := newBoth()
	x.want(t, nil, line(cash, greatest), line(escrow, -greatest))
	over := lines(line(cash, 1), line(trust, -1))
	x.want(t, api.ErrOver, over...)
	x.want(t, api.ErrForm, append(over, line(own, 1))...)
	x.want(t, api.ErrForm, line(cash, least))
	x.want(t, api.ErrForm, line(cash, 1), line(own, least))
	x.want(t, api.ErrArg, append(over, line(own, 0))...)
	x.want(t, api.ErrArg, append(over, line(own, 1), line(api.Account{}, 1))...)
	x.want(t, api.ErrArg, append(over, line(own, 1), line(trust, 0))...)
	x.want(t, api.ErrArg, line(api.Account{}, least))
	x.want(t, api.ErrArg, slices.Repeat(over, 17)...)
	x.want(t, api.ErrArg, slices.Repeat(over[:1], 33)...)
}

// P10.1, P10.2, R1: full books take no more, whatever it is, and still tell all; what was refused
// doesn't count.
func TestFull(t *testing.T) {
	x := full(t)
	x.check(t)
	if x.b.Len() != api.MaxEntries {
		t.Fatalf("Len: got %d", x.b.Len())
	}
	for _, l := range [][]api.Line{
		{}, {line(cash, 1), line(escrow, -1)}, {line(cash, 1)}, {line(cash, 0)}, {line(api.Account{}, 1)},
		{line(cash, least)}, slices.Repeat(lines(line(cash, 1)), 33),
	} {
		if err := x.post(t, l...); err != api.ErrFull {
			t.Errorf("Post(%v): got %v", l, err)
		}
	}
	for n, wanted := range map[int]error{
		-1: api.ErrNone, 4096: api.ErrNone, 5: api.ErrTwice, 4094: api.ErrTwice, 0: api.ErrFull, 4: api.ErrFull, 4095: api.ErrFull,
	} {
		if err := x.reverse(t, n); err != wanted {
			t.Errorf("Reverse(%d): got %v, want %v", n, err, wanted)
		}
	}
	x.check(t)
	c := x.clone()
	if err := c.post(t, line(cash, 1), line(escrow, -1)); err != api.ErrFull {
		t.Errorf("Post to the clone: got %v", err)
	}
	c.check(t)
}

// P10.1: refused entries leave room for all that may be.
func TestRefusedDontCount(t *testing.T) {
	b := book.New()
	for range 5000 {
		if _, err := b.Post(line(cash, 1)); err != api.ErrForm {
			t.Fatalf("got %v", err)
		}
	}
	for want := range 4096 {
		if n, err := b.Post(line(cash, 1), line(escrow, -1)); n != want || err != nil {
			t.Fatalf("got %d, %v; want %d", n, err, want)
		}
	}
	if n, err := b.Post(line(cash, 1), line(escrow, -1)); n != 0 || err != api.ErrFull {
		t.Errorf("got %d, %v", n, err)
	}
	if b.Balance(cash) != 4096 || b.Len() != 4096 {
		t.Errorf("got %d, %d entries", b.Balance(cash), b.Len())
	}
}

// P10.1: the greatest books: all entries have all lines, each of an account of its own.
func TestGreatestBooks(t *testing.T) {
	b := book.New()
	l := make([]api.Line, 32)
	for n := range 4096 {
		for i := range l {
			at := n*32 + i
			l[i] = line(api.Account{Kind: api.AccLoan - at/65536, Of: at%65536 + 1}, int64(1-i%2*2))
		}
		if place, err := b.Post(l...); place != n || err != nil {
			t.Fatalf("got %d, %v; want %d", place, err, n)
		}
	}
	trial := b.Clone().Trial()
	if len(trial) != 4096*32 || b.Len() != 4096 {
		t.Errorf("got %d balances, %d entries", len(trial), b.Len())
	}
	for i := range trial {
		if want := line(api.Account{Kind: api.AccPrincipal + i/65536, Of: i%65536 + 1}, int64(1-i%2*2)); trial[i] != want {
			t.Fatalf("at %d: got %v, want %v", i, trial[i], want)
		}
	}
}

// P10.2: an entry's lines, in their order, all signs turned; a trace is left in the entries alone.
func TestReverse(t *testing.T) {
	x := newBoth()
	x.want(t, nil, line(cash, 9), line(escrow, -4), line(loan, -5))
	x.want(t, nil, line(trust, 3), line(cash, -1), line(trust, -1), line(own, -1))
	x.wantReverse(t, nil, 0)
	if l, err := x.b.Entry(2); !slices.Equal(l, lines(line(cash, -9), line(escrow, 4), line(loan, 5))) || err != nil {
		t.Errorf("Entry(2): got %v, %v", l, err)
	}
	if l := x.b.Trial(); !slices.Equal(l, lines(line(cash, -1), line(trust, 2), line(own, -1))) {
		t.Errorf("Trial: got %v", l)
	}
	x.wantReverse(t, nil, 1)
	if l := x.b.Trial(); len(l) != 0 {
		t.Errorf("Trial: got %v", l)
	}
	for n := range 4 {
		x.wantReverse(t, api.ErrTwice, n)
	}
}

// P10.2: what was reversed, or reverses one, isn't reversed, but the same lines may be posted anew.
func TestReverseTwice(t *testing.T) {
	x := newBoth()
	l := lines(line(cash, 9), line(escrow, -9))
	x.want(t, nil, l...)
	x.want(t, nil, l...)
	x.wantReverse(t, nil, 1)
	x.wantReverse(t, api.ErrTwice, 1)
	x.wantReverse(t, api.ErrTwice, 2)
	x.want(t, nil, l...)
	x.wantReverse(t, nil, 3)
	x.wantReverse(t, nil, 0)
	x.want(t, nil, negated(l)...) // of a reversing one's lines, but posted
	x.wantReverse(t, nil, 6)
	for n := range 8 {
		x.wantReverse(t, api.ErrTwice, n)
	}
}

// P10.2: there is no such entry.
func TestReverseNone(t *testing.T) {
	x := newBoth()
	x.wantReverse(t, api.ErrNone, 0)
	x.want(t, nil, line(cash, 9), line(escrow, -9))
	for _, n := range []int{-1, 1, 2, 4095, 4096, 1 << 32, math.MinInt, math.MaxInt} {
		x.wantReverse(t, api.ErrNone, n)
	}
}

// P10.2: the turned lines have no room, line by line: nothing is done, and once they have, it is.
func TestReverseOver(t *testing.T) {
	x := newBoth()
	x.want(t, nil, line(cash, -5), line(escrow, 5))
	x.want(t, nil, line(cash, greatest), line(loan, -greatest))
	x.want(t, nil, line(cash, 3), line(trust, -3))
	x.wantReverse(t, api.ErrOver, 0)
	x.wantReverse(t, api.ErrOver, 0)
	x.want(t, nil, line(cash, -3), line(trust, 3))
	x.wantReverse(t, nil, 0)
	x.wantReverse(t, api.ErrTwice, 0)
	x.wantReverse(t, api.ErrTwice, 4)
	y := newBoth() // its balance would be as before, but it has no room on the way
	y.want(t, nil, line(cash, -5), line(cash, 5))
	y.want(t, nil, line(cash, greatest), line(loan, -greatest))
	y.wantReverse(t, api.ErrOver, 0)
	y.wantReverse(t, nil, 1)
	y.wantReverse(t, nil, 0)
}

// P10.2: the greatest amounts are turned, too.
func TestReverseGreatest(t *testing.T) {
	x := newBoth()
	x.want(t, nil, line(cash, greatest), line(loan, -greatest))
	x.want(t, nil, line(escrow, -greatest), line(trust, greatest))
	x.wantReverse(t, nil, 1)
	x.wantReverse(t, nil, 0)
	x.want(t, nil, line(cash, -greatest), line(cash, -1), line(loan, greatest), line(escrow, 1)) // cash is -2^63
	x.wantReverse(t, nil, 4)
	if l := x.b.Trial(); len(l) != 0 {
		t.Errorf("Trial: got %v", l)
	}
}

// P10.4: what is handed in is neither changed, not even in the room behind it, nor kept.
func TestWhatIsHandedInStays(t *testing.T) {
	x := newBoth()
	l := lines(line(trust, 2), line(cash, 3), line(escrow, -5), line(loan, 77))
	was := slices.Clone(l)
	x.want(t, nil, l[:3]...)
	if !slices.Equal(l, was) {
		t.Errorf("Post left %v", l)
	}
	for i := range l {
		l[i] = line(own, 99)
	}
	x.check(t)
	x.want(t, api.ErrForm, l...)
	x.wantReverse(t, nil, 0)
	if !slices.Equal(l, slices.Repeat(lines(line(own, 99)), 4)) {
		t.Errorf("Post left %v", l)
	}
}

// P10.4: what is told is nobody else's: not the books', not that of another answer, and no answer
// is in the memory behind another one.
func TestAnswersAreNewMemory(t *testing.T) {
	x := newBoth()
	x.want(t, nil, line(cash, 5), line(escrow, -5))
	x.want(t, nil, line(trust, 6), line(loan, -6))
	x.wantReverse(t, nil, 0)
	spoil := func(l []api.Line) {
		l = l[:cap(l)]
		for i := range l {
			l[i] = line(own, 1234)
		}
	}
	for n := range 3 {
		l, _ := x.b.Entry(n)
		other, _ := x.b.Entry(n)
		was := slices.Clone(other)
		spoil(l)
		if !slices.Equal(other, was) {
			t.Errorf("Entry(%d) hangs on another answer: %v", n, other)
		}
		x.check(t)
	}
	l, other := x.b.Trial(), x.b.Trial()
	spoil(l)
	if !slices.Equal(other, x.m.trial()) {
		t.Errorf("Trial hangs on another answer: %v", other)
	}
	x.check(t)
	x.wantReverse(t, nil, 1)
	if !slices.Equal(other, lines(line(trust, 6), line(loan, -6))) {
		t.Errorf("Trial hangs on the books: %v", other)
	}
}

// P10.4: books and their clones stand alike, and go their own ways, each of both ways.
func TestClone(t *testing.T) {
	x := newBoth()
	x.want(t, nil, line(cash, 5), line(escrow, -5))
	x.want(t, nil, line(trust, 6), line(loan, -6))
	x.wantReverse(t, nil, 0)
	c := x.clone()
	c.check(t)
	d := c.clone()
	x.want(t, nil, line(cash, 1), line(escrow, -1))
	c.check(t)
	d.check(t)
	c.want(t, nil, line(own, 2), line(loan, -2))
	x.check(t)
	d.check(t)
	c.wantReverse(t, nil, 1) // there alone it was reversed
	x.check(t)
	d.check(t)
	d.wantReverse(t, nil, 1)
	x.wantReverse(t, nil, 1)
	for n, y := range []both{x, c, d} {
		y.wantReverse(t, api.ErrTwice, 0) // that was reversed before
		y.wantReverse(t, api.ErrTwice, 2)
		y.wantReverse(t, api.ErrTwice, 1)
		if want := []int{5, 5, 4}[n]; y.b.Len() != want {
			t.Errorf("books %d: got %d entries, want %d", n, y.b.Len(), want)
		}
	}
}

// P10.4: clones of books without entries, and of books whose memory has room behind the entries.
func TestCloneAtAnyTime(t *testing.T) {
	x := newBoth()
	var all []both
	for n := range 40 {
		all = append(all, x.clone())
		x.want(t, nil, line(cash, int64(n)+1), line(escrow, -int64(n)-1))
	}
	for n, c := range all {
		c.want(t, nil, line(loan, int64(n)+1), line(own, -int64(n)-1))
		c.wantReverse(t, nil, n/2)
	}
	x.check(t)
	for _, c := range all {
		c.check(t)
	}
}

// P10.4: books are apart from each other.
func TestBooksAreApart(t *testing.T) {
	x, y := newBoth(), newBoth()
	x.want(t, nil, line(cash, 1), line(escrow, -1))
	y.check(t)
	y.want(t, nil, line(cash, 2), line(loan, -2))
	y.wantReverse(t, nil, 0)
	x.check(t)
}

// anyAmount is small, or near the ends of its room.
func anyAmount(r *rand.Rand) int64 {
	switch r.IntN(12) {
	case 0:
		return greatest - int64(r.IntN(3))
	case 1:
		return least + int64(r.IntN(3))
	case 2:
		return int64(r.Uint64())
	}
	return int64(r.IntN(21)) - 10
}

// anyLines are some, of which many balance.
func anyLines(r *rand.Rand) []api.Line {
	all := some()
	if r.IntN(30) == 0 {
		all = append(all, noAccounts()...)
	}
	n := 1 + r.IntN(5)
	if r.IntN(20) == 0 {
		n = r.IntN(40)
	}
	var l []api.Line
	var sum int64
	for range n {
		x := line(all[r.IntN(len(all))], anyAmount(r))
		if x.Amount == 0 && r.IntN(10) > 0 {
			x.Amount = 1
		}
		l = append(l, x)
		sum -= x.Amount
	}
	if sum != 0 && r.IntN(10) > 0 {
		l = append(l, line(all[r.IntN(len(all))], sum))
	}
	return l
}

// P10.1 to P10.5: any calls: entries, reversals and clones, and at last all is reversed.
func TestAnyCalls(t *testing.T) {
	r := rand.New(rand.NewPCG(10, 1))
	seen := make(map[error]int)
	for range 200 {
		x := newBoth()
		var others []both
		for range 60 {
			switch r.IntN(5) {
			case 0:
				seen[x.reverse(t, r.IntN(len(x.m.entries)+2)-1)]++
			case 1:
				others = append(others, x)
				x = x.clone()
			default:
				seen[x.post(t, anyLines(r)...)]++
			}
			x.check(t)
		}
		for _, y := range others {
			y.check(t)
		}
	}
	for _, err := range []error{nil, api.ErrNone, api.ErrTwice, api.ErrArg, api.ErrForm, api.ErrOver} {
		if seen[err] < 100 {
			t.Errorf("%v came only %d times", err, seen[err])
		}
	}
}

// P10.5: small entries, all of which but the first are reversed, in any order: of them nothing is
// left in the balances.
func TestReversedLeavesNoTrace(t *testing.T) {
	r := rand.New(rand.NewPCG(10, 2))
	for range 100 {
		x := newBoth()
		first := lines(line(own, -11), line(investor, 11))
		x.want(t, nil, first...)
		n := 1 + r.IntN(20)
		for range n {
			a, b, c := some()[r.IntN(10)], some()[r.IntN(10)], some()[r.IntN(10)]
			one, two := int64(r.IntN(9))+1, int64(r.IntN(9))-30
			x.want(t, nil, line(a, one), line(b, two), line(c, 5), line(a, -one-two-5))
		}
		for _, place := range r.Perm(n) {
			x.wantReverse(t, nil, place+1)
		}
		if l := x.b.Trial(); !slices.Equal(l, first) {
			t.Fatalf("is left: %v", l)
		}
	}
}

// Errors are found by errors.Is, as all of the program's are.
func TestErrorsAreFound(t *testing.T) {
	b := book.New()
	_, arg := b.Post()
	_, form := b.Post(line(cash, 1))
	_, over := b.Post(line(cash, least), line(escrow, greatest), line(loan, 1))
	_, none := b.Entry(0)
	_, none2 := b.Reverse(0)
	b.Post(line(cash, 1), line(loan, -1))
	b.Reverse(0)
	_, twice := b.Reverse(0)
	_, whole := full(t).b.Post()
	for _, x := range []struct{ got, want error }{
		{arg, api.ErrArg}, {form, api.ErrForm}, {over, api.ErrOver}, {none, api.ErrNone}, {none2, api.ErrNone},
		{twice, api.ErrTwice}, {whole, api.ErrFull},
	} {
		if !errors.Is(x.got, x.want) {
			t.Errorf("got %v, want %v", x.got, x.want)
		}
	}
}
