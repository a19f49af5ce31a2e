package rate_test

import (
	"errors"
	"math"
	"math/big"
	"math/rand/v2"
	"slices"
	"testing"

	"trivet/api"
	"trivet/rate"
)

// wrongBalances and wrongRates are none, just outside the limits and far from them.
var (
	wrongBalances = []int64{-1, -100, api.MaxCents + 1, math.MinInt64, math.MaxInt64}
	wrongRates    = []int{-1, -60000, api.MaxRate + 1, math.MinInt, math.MaxInt}
	wrongPayments = []int64{-1, -100, -api.MaxCents, math.MinInt64}
)

// balances are ordinary ones, edges, and such whose interest is close to halves.
func balances() []int64 {
	return []int64{0, 1, 2, 19, 20, 21, 60, 99, 100, 101, 300, 500, 1200, 12345, 999999, 10000000, 20000000,
		41666667, 1234567890123, api.MaxCents / 2, api.MaxCents - 1, api.MaxCents}
}

func rates() []int {
	return []int{0, 1, 2, 12, 1200, 2500, 29999, 60000, 65000, 71250, 120000, 240000, api.MaxRate - 1, api.MaxRate}
}

// model is a month as the chapter's words say it, by numbers that never go round: the next balance, and the interest.
func model(balance, rate, payment *big.Int) (*big.Int, *big.Int) {
	product := new(big.Int).Mul(balance, rate)
	divisor := big.NewInt(12_000_000)
	interest, rest := new(big.Int).DivMod(product, divisor, new(big.Int))
	half := new(big.Int).Lsh(rest, 1).Cmp(divisor)
	if half > 0 || half == 0 && interest.Bit(0) == 1 {
		interest.Add(interest, big.NewInt(1))
	}
	due := new(big.Int).Add(balance, interest)
	if payment.Cmp(due) >= 0 {
		return new(big.Int), interest
	}
	return due.Sub(due, payment), interest
}

// modelNext is what Next is to answer where all arguments may be.
func modelNext(balance int64, rate int, payment int64) (int64, int64, error) {
	left, interest := model(big.NewInt(balance), big.NewInt(int64(rate)), big.NewInt(payment))
	if left.Cmp(big.NewInt(api.MaxCents)) > 0 {
		return 0, 0, api.ErrOver
	}
	return left.Int64(), interest.Int64(), nil
}

// modelLeft is what Left is to answer where all arguments may be.
func modelLeft(balance int64, rate int, payment int64, months int) (int64, error) {
	for range months {
		next, _, err := modelNext(balance, rate, payment)
		if err != nil {
			return 0, err
		}
		balance = next
	}
	return balance, nil
}

// leavesNothing is asked of the model without any limit on balances.
func leavesNothing(balance int64, rate int, payment int64, months int) bool {
	left := big.NewInt(balance)
	for range months {
		left, _ = model(left, big.NewInt(int64(rate)), big.NewInt(payment))
	}
	return left.Sign() == 0
}

// check holds an answer against what it is to be; an error is to be the number itself, and leaves 0 beside it.
func check(t *testing.T, got int64, err error, want int64, wanted error, call ...any) {
	t.Helper()
	if got != want || err != wanted {
		t.Errorf("%v: got %d, %v; want %d, %v", call, got, err, want, wanted)
	}
}

// checkNext does so for a call of Next.
func checkNext(t *testing.T, balance int64, r int, payment, left, interest int64, wanted error) {
	t.Helper()
	gotLeft, gotInterest, err := rate.Next(balance, r, payment)
	check(t, gotLeft, err, left, wanted, "Next's balance", balance, r, payment)
	check(t, gotInterest, err, interest, wanted, "Next's interest", balance, r, payment)
}

// P2.1: ordinary numbers, halves to even, and both ends of both limits.
func TestMonth(t *testing.T) {
	for _, x := range []struct {
		balance int64
		rate    int
		want    int64
	}{
		{20000000, 60000, 100000}, // the chapter's example
		{10000000, 60000, 50000},
		{12345678, 71250, 73302}, // 73302.463125
		{12345678, 71251, 73303}, // 73303.4919315
		{99, 60000, 0},           // 0.495
		{100, 60000, 0},          // 0.5
		{101, 60000, 1},          // 0.505
		{299, 60000, 1},          // 1.495
		{300, 60000, 2},          // 1.5
		{500, 60000, 2},          // 2.5
		{501, 60000, 3},          // 2.505
		{700, 60000, 4},          // 3.5
		{0, 0, 0},
		{0, api.MaxRate, 0},
		{api.MaxCents, 0, 0},
		{api.MaxCents, 1, 833333},
		{api.MaxCents, api.MaxRate, 250000000000},
		{api.MaxCents - 1, api.MaxRate, 250000000000},
		{1, api.MaxRate, 0},
		{20, api.MaxRate, 0}, // 0.5
		{21, api.MaxRate, 1},
		{60, api.MaxRate, 2}, // 1.5
	} {
		v, err := rate.Month(x.balance, x.rate)
		check(t, v, err, x.want, nil, "Month", x.balance, x.rate)
	}
}

// P2.1: what is no balance, and what is no rate.
func TestMonthOfWrong(t *testing.T) {
	for _, balance := range wrongBalances {
		for _, r := range append(rates(), wrongRates...) {
			v, err := rate.Month(balance, r)
			check(t, v, err, 0, api.ErrArg, "Month", balance, r)
		}
	}
	for _, r := range wrongRates {
		for _, balance := range balances() {
			v, err := rate.Month(balance, r)
			check(t, v, err, 0, api.ErrArg, "Month", balance, r)
		}
	}
}

// P2.2: a month with a payment: none, less than the interest, just that, more, all that is due, more than that.
func TestNext(t *testing.T) {
	for _, x := range []struct {
		balance        int64
		rate           int
		payment        int64
		left, interest int64
	}{
		{10000000, 60000, 60000, 9990000, 50000},
		{10000000, 60000, 0, 10050000, 50000},
		{10000000, 60000, 49999, 10000001, 50000},
		{10000000, 60000, 50000, 10000000, 50000},
		{10000000, 60000, 50001, 9999999, 50000},
		{10000000, 60000, 10049999, 1, 50000},
		{10000000, 60000, 10050000, 0, 50000},
		{10000000, 60000, 10050001, 0, 50000},
		{10000000, 60000, math.MaxInt64, 0, 50000},
		{1200, 0, 100, 1100, 0},
		{300, 60000, 0, 302, 2},
		{0, 60000, 0, 0, 0},
		{0, 60000, 100, 0, 0},
		{0, 0, math.MaxInt64, 0, 0},
		{api.MaxCents, 0, 0, api.MaxCents, 0},
		{api.MaxCents, api.MaxRate, math.MaxInt64, 0, 250000000000},
	} {
		checkNext(t, x.balance, x.rate, x.payment, x.left, x.interest, nil)
	}
}

// P2.2: a next balance of MaxCents may be, one of a cent more may not.
func TestNextOver(t *testing.T) {
	const interest = 250000000000
	checkNext(t, api.MaxCents, api.MaxRate, interest, api.MaxCents, interest, nil)
	checkNext(t, api.MaxCents, api.MaxRate, interest+1, api.MaxCents-1, interest, nil)
	checkNext(t, api.MaxCents, api.MaxRate, interest-1, 0, 0, api.ErrOver)
	checkNext(t, api.MaxCents, api.MaxRate, 0, 0, 0, api.ErrOver)
	checkNext(t, api.MaxCents-833333, 1, 0, api.MaxCents, 833333, nil)
	checkNext(t, api.MaxCents-833332, 1, 0, 0, 0, api.ErrOver)
}

// P2.1, P2.2: all edges, against numbers that never go round.
func TestMonthsOfEdges(t *testing.T) {
	for _, balance := range balances() {
		for _, r := range rates() {
			_, interest := model(big.NewInt(balance), big.NewInt(int64(r)), new(big.Int))
			v, err := rate.Month(balance, r)
			check(t, v, err, interest.Int64(), nil, "Month", balance, r)
			due := balance + interest.Int64()
			for _, payment := range []int64{0, 1, v - 1, v, v + 1, due / 2, due - 1, due, due + 1, api.MaxCents, math.MaxInt64} {
				if payment >= 0 {
					left, interest, wanted := modelNext(balance, r, payment)
					checkNext(t, balance, r, payment, left, interest, wanted)
				}
			}
		}
	}
}

// P2.2: what is none of each argument, whatever the others are; it goes ahead of too great a balance.
func TestNextOfWrong(t *testing.T) {
	wrong := func(balance int64, r int, payment int64) {
		checkNext(t, balance, r, payment, 0, 0, api.ErrArg)
		for _, months := range []int{0, 1, 12, api.MaxMonths, -1, api.MaxMonths + 1} {
			v, err := rate.Left(balance, r, payment, months)
			check(t, v, err, 0, api.ErrArg, "Left", balance, r, payment, months)
		}
	}
	for _, balance := range wrongBalances {
		wrong(balance, 60000, 100)
		wrong(balance, 0, 0)
		wrong(balance, api.MaxRate, math.MaxInt64)
	}
	for _, r := range wrongRates {
		wrong(10000, r, 100)
		wrong(0, r, 0)
		wrong(api.MaxCents, r, math.MaxInt64)
	}
	for _, payment := range wrongPayments {
		wrong(10000, 60000, payment)
		wrong(0, 0, payment)
		wrong(api.MaxCents, api.MaxRate, payment)
	}
}

// P2.2: months that are none, even where the balance would be over.
func TestLeftOfWrongMonths(t *testing.T) {
	for _, months := range []int{-1, -12, api.MaxMonths + 1, math.MinInt, math.MaxInt} {
		for _, balance := range balances() {
			v, err := rate.Left(balance, api.MaxRate, 0, months)
			check(t, v, err, 0, api.ErrArg, "Left", balance, api.MaxRate, 0, months)
		}
	}
}

// P2.2: no months, some, and as many as there may be.
func TestLeft(t *testing.T) {
	for _, x := range []struct {
		balance int64
		rate    int
		payment int64
		months  int
		want    int64
	}{
		{10000000, 60000, 60000, 0, 10000000},
		{10000000, 60000, 60000, 1, 9990000},
		{10000000, 60000, 60000, 2, 9979950},
		{10000000, 60000, 60000, 3, 9969850}, // the interest is 49899.75
		{1200, 0, 100, 11, 100},
		{1200, 0, 100, 12, 0},
		{1200, 0, 100, api.MaxMonths, 0},
		{1200, 0, 0, api.MaxMonths, 1200},
		{api.MaxMonths, 0, 1, api.MaxMonths - 1, 1},
		{api.MaxMonths, 0, 1, api.MaxMonths, 0},
		{0, api.MaxRate, 0, api.MaxMonths, 0},
		{api.MaxCents, api.MaxRate, 0, 0, api.MaxCents},
		{api.MaxCents, api.MaxRate, 250000000000, api.MaxMonths, api.MaxCents},
		{api.MaxCents, api.MaxRate, math.MaxInt64, 1, 0},
		{20, api.MaxRate, 0, api.MaxMonths, 20}, // its interest is always a half
	} {
		v, err := rate.Left(x.balance, x.rate, x.payment, x.months)
		check(t, v, err, x.want, nil, "Left", x.balance, x.rate, x.payment, x.months)
	}
}

// P2.2: a balance that grows too great does so in one month, and stays so in all later ones.
func TestLeftOver(t *testing.T) {
	const first = api.MaxCents / 10
	months := 0
	for want := int64(first); ; months++ {
		v, err := rate.Left(first, api.MaxRate, 0, months)
		check(t, v, err, want, nil, "Left", months)
		next, _, over := modelNext(want, api.MaxRate, 0)
		if over != nil {
			break
		}
		want = next
	}
	if months != 93 { // 1.025 to the 94th is the first power above 10
		t.Errorf("over behind %d months", months+1)
	}
	for _, more := range []int{months + 1, months + 2, api.MaxMonths} {
		v, err := rate.Left(first, api.MaxRate, 0, more)
		check(t, v, err, 0, api.ErrOver, "Left", more)
	}
	v, err := rate.Left(api.MaxCents, api.MaxRate, 249999999999, 1)
	check(t, v, err, 0, api.ErrOver, "Left, a cent too little")
}

// P2.2: balances, rates, payments and months of all sizes, against numbers that never go round.
func TestLeftAgainstBig(t *testing.T) {
	from := rand.New(rand.NewPCG(5, 6))
	for range 1500 {
		balance := from.Int64N(api.MaxCents+1) >> from.IntN(44)
		r := from.IntN(api.MaxRate + 1)
		interest, _ := rate.Month(balance, r)
		payment := from.Int64N(2*interest + balance/50 + 1)
		months := from.IntN(api.MaxMonths + 1)
		want, wanted := modelLeft(balance, r, payment, months)
		v, err := rate.Left(balance, r, payment, months)
		check(t, v, err, want, wanted, "Left", balance, r, payment, months)
	}
}

// P2.3: payments that are known.
func TestLevel(t *testing.T) {
	for _, x := range []struct {
		balance      int64
		rate, months int
		want         int64
	}{
		{1200, 0, 12, 100}, // the chapter's example
		{1201, 0, 12, 101},
		{1199, 0, 12, 100},
		{12, 0, 12, 1},
		{11, 0, 12, 1},
		{1, 0, api.MaxMonths, 1},
		{api.MaxCents, 0, 1, api.MaxCents},
		{api.MaxCents, 0, api.MaxMonths, 20833333334},
		{0, 0, 1, 0},
		{0, api.MaxRate, api.MaxMonths, 0},
		{10000000, 60000, 1, 10050000},
		{api.MaxCents, api.MaxRate, 1, 10250000000000},
		{100, 60000, 1, 100}, // the interest is a half
		{101, 60000, 1, 102},
		{20, api.MaxRate, api.MaxMonths, 1}, // no interest comes to a cent
		{10000000, 60000, 2, 5037531},       // behind a month 5012469 are left, and the interest of that is 25062
	} {
		v, err := rate.Level(x.balance, x.rate, x.months)
		check(t, v, err, x.want, nil, "Level", x.balance, x.rate, x.months)
	}
}

// P2.3: what is none of each argument.
func TestLevelOfWrong(t *testing.T) {
	wrong := func(balance int64, r, months int) {
		v, err := rate.Level(balance, r, months)
		check(t, v, err, 0, api.ErrArg, "Level", balance, r, months)
	}
	for _, balance := range wrongBalances {
		wrong(balance, 60000, 360)
		wrong(balance, 0, 1)
		wrong(balance, -1, 0)
	}
	for _, r := range wrongRates {
		wrong(10000, r, 360)
		wrong(0, r, 1)
	}
	for _, months := range []int{0, -1, -12, api.MaxMonths + 1, math.MinInt, math.MaxInt} {
		wrong(10000, 60000, months)
		wrong(0, 0, months)
		wrong(api.MaxCents, api.MaxRate, months)
	}
}

// P2.3: the least of all payments, from 0 on, one by one.
func TestLevelOneByOne(t *testing.T) {
	for _, r := range []int{0, 1200, 60000, 240000, api.MaxRate} {
		for _, months := range []int{1, 2, 3, 7, 12, 60} {
			for balance := int64(0); balance < 400; balance += 1 + balance/20 {
				want := int64(0)
				for !leavesNothing(balance, r, want, months) {
					want++
				}
				v, err := rate.Level(balance, r, months)
				check(t, v, err, want, nil, "Level", balance, r, months)
			}
		}
	}
}

// P2.3: with the level payment nothing is left, with a cent less something is, whatever the limits on balances.
func TestLevelAgainstBig(t *testing.T) {
	for _, balance := range balances() {
		for _, r := range rates() {
			for _, months := range []int{1, 2, 12, 359, 360, api.MaxMonths} {
				checkLeast(t, balance, r, months)
			}
		}
	}
}

func checkLeast(t *testing.T, balance int64, r, months int) {
	t.Helper()
	v, err := rate.Level(balance, r, months)
	if err != nil || v < 0 {
		t.Errorf("Level %d, %d, %d: got %d, %v", balance, r, months, v, err)
	}
	if !leavesNothing(balance, r, v, months) {
		t.Errorf("Level %d, %d, %d: with %d something is left", balance, r, months, v)
	}
	if v > 0 && leavesNothing(balance, r, v-1, months) {
		t.Errorf("Level %d, %d, %d: with one less than %d nothing is left", balance, r, months, v)
	}
}

// P2.4: a month's interest of more is no less, be it more of the balance or of the rate.
func TestInterestOfMore(t *testing.T) {
	for _, r := range rates() {
		last := int64(0)
		for _, balance := range balances() {
			v, err := rate.Month(balance, r)
			if err != nil || v < last {
				t.Errorf("Month %d, %d: %d, %v; of less %d", balance, r, v, err, last)
			}
			last = v
		}
	}
	for _, balance := range balances() {
		last := int64(0)
		for _, r := range rates() {
			v, err := rate.Month(balance, r)
			if err != nil || v < last {
				t.Errorf("Month %d, %d: %d, %v; of less %d", balance, r, v, err, last)
			}
			last = v
		}
	}
}

// P2.4: with a greater payment no more is left, and none is over where a lesser one was not.
func TestGreaterPayment(t *testing.T) {
	for _, balance := range balances() {
		for _, r := range rates() {
			level, _ := rate.Level(balance, r, 360)
			payments := []int64{0, 1, level / 2, max(level-1, 0), level, level + 1, 2 * level, balance, 2 * balance, math.MaxInt64}
			slices.Sort(payments)
			last, over := int64(math.MaxInt64), true
			for _, payment := range payments {
				v, err := rate.Left(balance, r, payment, 360)
				if err != nil && !over || v > last {
					t.Errorf("Left %d, %d, %d: %d, %v; with less %d", balance, r, payment, v, err, last)
				}
				if err == nil {
					last, over = v, false
				}
			}
		}
	}
}

// P2.4: with one cent less than the level payment something is left, or more than MaxCents ahead of it.
func TestOneCentLess(t *testing.T) {
	for _, balance := range balances() {
		for _, r := range rates() {
			level, err := rate.Level(balance, r, 360)
			if err != nil || level == 0 {
				continue
			}
			v, err := rate.Left(balance, r, level, 360)
			check(t, v, err, 0, nil, "Left with level", balance, r, level)
			v, err = rate.Left(balance, r, level-1, 360)
			if err == nil && v == 0 || err != nil && err != api.ErrOver {
				t.Errorf("Left %d, %d with one less than %d: %d, %v", balance, r, level, v, err)
			}
		}
	}
}

// P2.4: months one behind the other are all of them at once.
func TestMonthsOneBehindTheOther(t *testing.T) {
	for _, balance := range balances() {
		for _, r := range rates() {
			level, _ := rate.Level(balance, r, 60)
			for _, payment := range []int64{0, level / 3, level} {
				for months := range 61 {
					first, err := rate.Left(balance, r, payment, 60-months)
					if err != nil {
						continue
					}
					want, wanted := rate.Left(balance, r, payment, 60)
					v, err := rate.Left(first, r, payment, months)
					check(t, v, err, want, wanted, "Left", balance, r, payment, months)
				}
			}
		}
	}
}

// The errors are found by errors.Is.
func TestErrors(t *testing.T) {
	if _, err := rate.Month(-1, 0); !errors.Is(err, api.ErrArg) {
		t.Error(err)
	}
	if _, _, err := rate.Next(api.MaxCents, api.MaxRate, 0); !errors.Is(err, api.ErrOver) {
		t.Error(err)
	}
	if _, err := rate.Left(api.MaxCents, 1200, 0, 1); !errors.Is(err, api.ErrOver) {
		t.Error(err)
	}
	if _, err := rate.Level(1, 0, 0); !errors.Is(err, api.ErrArg) {
		t.Error(err)
	}
}
