package count_test

import (
	"errors"
	"math"
	"math/big"
	"math/rand/v2"
	"testing"

	"trivet/api"
	"trivet/count"
	"trivet/date"
	"trivet/rate"
)

// by months, and by days.
const byMonths, byDays = true, false

// on is short for a date.
func on(y, m, d int) api.Date { return api.Date{Y: y, M: m, D: d} }

// noDates are none: of a year, a month or a day just outside and far from it.
func noDates() []api.Date {
	l := []api.Date{
		{}, on(1899, 12, 31), on(2200, 1, 1), on(0, 1, 1), on(-2000, 1, 1),
		on(2026, 0, 1), on(2026, 13, 1), on(2026, -1, 1), on(2026, 1, 0), on(2026, 1, -1), on(2026, 1, 32),
		on(2026, 4, 31), on(2026, 2, 29), on(2026, 2, 30), on(2024, 2, 30), on(1900, 2, 29), on(2100, 2, 29),
	}
	for _, n := range []int{math.MinInt, math.MinInt32, math.MaxInt32, math.MaxInt} {
		l = append(l, on(n, 6, 15), on(2026, n, 15), on(2026, 6, n), on(n, n, n))
	}
	return l
}

// day is one, and how many days it is behind January 1, 1900.
type day struct {
	date             api.Date
	byDays, byMonths int
}

// model are all days, counted one by one: each is one more, but by months a 31st is the 30th
// ahead of it, and each month begins 30 days behind the one ahead.
func model() []day {
	var l []day
	days, months := 0, 0
	for y := 1900; y <= 2199; y++ {
		for m := 1; m <= 12; m++ {
			for d := 1; d <= modelDays(y, m); d++ {
				thirtieth := months + 29
				l = append(l, day{on(y, m, d), days, min(months+d-1, thirtieth)})
				days++
			}
			months += 30
		}
	}
	return l
}

// modelDays is how many days a month has.
func modelDays(y, m int) int {
	switch m {
	case 4, 6, 9, 11:
		return 30
	case 2:
		if y%400 == 0 || y%4 == 0 && y%100 != 0 {
			return 29
		}
		return 28
	}
	return 31
}

// modelInterest is the interest by numbers that never go round, rounded as the words say it.
func modelInterest(balance int64, rate, days int, months bool) int64 {
	year := int64(365_000_000)
	if months {
		year = 360_000_000
	}
	product := new(big.Int).Mul(big.NewInt(balance), big.NewInt(int64(rate)))
	product.Mul(product, big.NewInt(int64(days)))
	interest, rest := new(big.Int).DivMod(product, big.NewInt(year), new(big.Int))
	half := new(big.Int).Lsh(rest, 1).Cmp(big.NewInt(year))
	if half > 0 || half == 0 && interest.Bit(0) == 1 {
		interest.Add(interest, big.NewInt(1))
	}
	return interest.Int64()
}

// check holds an answer against what it is to be; an error is to be the number itself, and leaves 0 beside it.
func check[T int | int64](t *testing.T, got T, err error, want T, wanted error, call ...any) {
	t.Helper()
	if got != want || err != wanted {
		t.Errorf("%v: got %d, %v; want %d, %v", call, got, err, want, wanted)
	}
}

// P5.1: ordinary days, the chapter's example first, ends of months, leap years and both ends.
func TestBetween(t *testing.T) {
	for _, x := range []struct {
		a, b           api.Date
		months, inDays int
	}{
		{on(2024, 1, 31), on(2024, 2, 29), 29, 29}, {on(2023, 1, 31), on(2023, 2, 28), 28, 28}, {on(2024, 1, 30), on(2024, 2, 29), 29, 30},
		{on(2024, 2, 29), on(2024, 3, 1), 2, 1}, {on(2023, 2, 28), on(2023, 3, 1), 3, 1}, {on(2100, 2, 28), on(2100, 3, 1), 3, 1},
		{on(2000, 2, 28), on(2000, 3, 1), 3, 2}, {on(2024, 2, 29), on(2024, 3, 31), 31, 31}, {on(2023, 2, 28), on(2023, 3, 31), 32, 31},
		{on(2026, 1, 30), on(2026, 1, 31), 0, 1}, {on(2026, 1, 31), on(2026, 2, 1), 1, 1}, {on(2026, 1, 29), on(2026, 1, 31), 1, 2},
		{on(2026, 3, 31), on(2026, 4, 30), 30, 30}, {on(2026, 4, 30), on(2026, 5, 31), 30, 31}, {on(2026, 7, 31), on(2026, 8, 31), 30, 31},
		{on(2026, 12, 31), on(2027, 1, 1), 1, 1}, {on(2026, 12, 30), on(2027, 1, 1), 1, 2}, {on(2026, 11, 15), on(2026, 12, 15), 30, 30},
		{on(2024, 1, 1), on(2025, 1, 1), 360, 366}, {on(2025, 1, 1), on(2026, 1, 1), 360, 365}, {on(2024, 2, 29), on(2025, 2, 28), 359, 365},
		{on(2026, 11, 15), on(2026, 11, 15), 0, 0}, {on(2026, 1, 31), on(2026, 1, 31), 0, 0}, {on(1969, 12, 31), on(1970, 1, 1), 1, 1},
		{on(1900, 1, 1), on(2199, 12, 31), 107999, 109572}, {on(1900, 1, 1), on(1900, 3, 1), 60, 59},
	} {
		n, err := count.Between(x.a, x.b, byMonths)
		check(t, n, err, x.months, nil, "by months", x.a, x.b)
		n, err = count.Between(x.b, x.a, byMonths)
		check(t, n, err, -x.months, nil, "by months", x.b, x.a)
		n, err = count.Between(x.a, x.b, byDays)
		check(t, n, err, x.inDays, nil, "by days", x.a, x.b)
		n, err = count.Between(x.b, x.a, byDays)
		check(t, n, err, -x.inDays, nil, "by days", x.b, x.a)
	}
}

// P5.1: all days, from some of them.
func TestBetweenAll(t *testing.T) {
	l := model()
	for i := 0; i < len(l); i += 9973 {
		from := l[i]
		for _, to := range l {
			n, err := count.Between(from.date, to.date, byMonths)
			check(t, n, err, to.byMonths-from.byMonths, nil, "by months", from.date, to.date)
			n, err = count.Between(from.date, to.date, byDays)
			check(t, n, err, to.byDays-from.byDays, nil, "by days", from.date, to.date)
		}
	}
}

// P5.1: wherever one is no date, the other one, too, or not.
func TestBetweenWrong(t *testing.T) {
	for _, months := range []bool{byMonths, byDays} {
		for _, wrong := range noDates() {
			for _, other := range append(noDates(), on(1900, 1, 1), on(2024, 2, 29), on(2199, 12, 31)) {
				n, err := count.Between(wrong, other, months)
				check(t, n, err, 0, api.ErrForm, "Between", wrong, other, months)
				n, err = count.Between(other, wrong, months)
				check(t, n, err, 0, api.ErrForm, "Between", other, wrong, months)
			}
		}
	}
}

// P5.2: ordinary interest, the chapter's example first, halves to even, and both ends.
func TestAccrue(t *testing.T) {
	for _, x := range []struct {
		balance    int64
		rate, days int
		months     bool
		want       int64
	}{
		{36500000, 10000, 1, byDays, 1000}, {36000000, 10000, 1, byMonths, 1000}, {36000000, 10000, 1, byDays, 986},
		{20000000, 60000, 30, byMonths, 100000}, {20000000, 60000, 360, byMonths, 1200000}, {20000000, 60000, 365, byDays, 1200000},
		{20000000, 60000, 366, byDays, 1203288}, {20000000, 60000, 31, byDays, 101918}, {20000000, 60000, 0, byDays, 0},
		{180, 1000000 / 4, 4, byMonths, 0}, {540, 1000000 / 4, 4, byMonths, 2}, {900, 1000000 / 4, 4, byMonths, 2}, {1260, 1000000 / 4, 4, byMonths, 4},
		{365, 1000000 / 8, 4, byDays, 0}, {1095, 1000000 / 8, 4, byDays, 2}, {1825, 1000000 / 8, 4, byDays, 2}, {2555, 1000000 / 8, 4, byDays, 4},
		{181, 1000000 / 4, 4, byMonths, 1}, {179, 1000000 / 4, 4, byMonths, 0}, {366, 1000000 / 8, 4, byDays, 1}, {364, 1000000 / 8, 4, byDays, 0},
		{0, 0, 0, byMonths, 0}, {0, api.MaxRate, api.MaxDays, byDays, 0}, {api.MaxCents, 0, api.MaxDays, byDays, 0}, {api.MaxCents, api.MaxRate, 0, byMonths, 0},
		{api.MaxCents, api.MaxRate, api.MaxDays, byMonths, 333333333333333}, {api.MaxCents, api.MaxRate, api.MaxDays, byDays, 328767123287671},
	} {
		v, err := count.Accrue(x.balance, x.rate, x.days, x.months)
		check(t, v, err, x.want, nil, "Accrue", x.balance, x.rate, x.days, x.months)
	}
}

// P5.2: any that may be, held against exact numbers.
func TestAccrueOfMany(t *testing.T) {
	r := rand.New(rand.NewPCG(5, 2))
	for range 50000 {
		balance := r.Int64N(api.MaxCents+1) >> r.IntN(44)
		yearly, days := r.IntN(api.MaxRate+1)>>r.IntN(19), r.IntN(api.MaxDays+1)>>r.IntN(16)
		for _, months := range []bool{byMonths, byDays} {
			v, err := count.Accrue(balance, yearly, days, months)
			check(t, v, err, modelInterest(balance, yearly, days, months), nil, "Accrue", balance, yearly, days, months)
		}
	}
	// Here many quotients end in just a half.
	for balance := int64(0); balance <= 2000; balance++ {
		for _, days := range []int{1, 2, 3, 4, 5, 29, 30, 31, 90, 180, 360, 365, 366, 730} {
			for _, months := range []bool{byMonths, byDays} {
				v, err := count.Accrue(balance, 250000, days, months)
				check(t, v, err, modelInterest(balance, 250000, days, months), nil, "Accrue", balance, 250000, days, months)
			}
		}
	}
}

// P5.2: a balance, a rate or days just outside and far from it; the edges just inside may be.
func TestAccrueWrong(t *testing.T) {
	for _, months := range []bool{byMonths, byDays} {
		wrong := func(balance int64, yearly, days int) {
			t.Helper()
			v, err := count.Accrue(balance, yearly, days, months)
			check(t, v, err, 0, api.ErrArg, "Accrue", balance, yearly, days, months)
		}
		for _, balance := range []int64{-1, -100, api.MaxCents + 1, math.MinInt64, math.MaxInt64} {
			wrong(balance, 60000, 30)
			wrong(balance, 0, 0)
		}
		for _, yearly := range []int{-1, -60000, api.MaxRate + 1, math.MinInt, math.MaxInt} {
			wrong(20000000, yearly, 30)
			wrong(0, yearly, 0)
		}
		for _, days := range []int{-1, -30, api.MaxDays + 1, math.MinInt, math.MaxInt} {
			wrong(20000000, 60000, days)
			wrong(0, 0, days)
		}
		wrong(math.MinInt64, math.MaxInt, math.MaxInt)
		for _, days := range []int{0, 1, api.MaxDays} {
			for _, balance := range []int64{0, 1, api.MaxCents} {
				for _, yearly := range []int{0, 1, api.MaxRate} {
					v, err := count.Accrue(balance, yearly, days, months)
					check(t, v, err, modelInterest(balance, yearly, days, months), nil, "Accrue", balance, yearly, days, months)
				}
			}
		}
	}
}

// P5.3: from a to b and back is 0, and by way of another day it is as far.
func TestThereAndBack(t *testing.T) {
	l := model()
	r := rand.New(rand.NewPCG(5, 3))
	for range 20000 {
		a, b, c := l[r.IntN(len(l))].date, l[r.IntN(len(l))].date, l[r.IntN(len(l))].date
		for _, months := range []bool{byMonths, byDays} {
			there, err := count.Between(a, b, months)
			back, wrong := count.Between(b, a, months)
			check(t, there+back, errors.Join(err, wrong), 0, nil, "there and back", a, b, months)
			on, err := count.Between(b, c, months)
			far, wrong := count.Between(a, c, months)
			check(t, there+on, errors.Join(err, wrong), far, nil, "by way of", a, b, c, months)
		}
	}
}

// P5.3: 30 days by months are layer 2's month.
func TestThirtyDaysAreAMonth(t *testing.T) {
	r := rand.New(rand.NewPCG(5, 4))
	balances := []int64{0, 1, 20, 60, 100, 1200, 20000000, api.MaxCents - 1, api.MaxCents}
	for range 2000 {
		balances = append(balances, r.Int64N(api.MaxCents+1)>>r.IntN(44))
	}
	for _, balance := range balances {
		for _, yearly := range []int{0, 1, 2500, 60000, 65000, 240000, api.MaxRate} {
			v, err := count.Accrue(balance, yearly, 30, byMonths)
			want, wanted := rate.Month(balance, yearly)
			check(t, v, err, want, wanted, "Accrue", balance, yearly)
		}
	}
}

// P5.3: by months the same day of the next month is 30 days behind, up to the 28th.
func TestNextMonthIsThirtyDaysBehind(t *testing.T) {
	for _, x := range model() {
		next, err := date.Months(x.date, 1)
		if x.date.D > 28 || err != nil {
			continue
		}
		n, err := count.Between(x.date, next, byMonths)
		check(t, n, err, 30, nil, "Between", x.date, next)
	}
}

// Errors are found by errors.Is, as all of the program's are.
func TestErrorsAreFound(t *testing.T) {
	_, between := count.Between(on(2026, 1, 1), api.Date{}, byMonths)
	_, accrue := count.Accrue(1, 1, api.MaxDays+1, byDays)
	if !errors.Is(between, api.ErrForm) || !errors.Is(accrue, api.ErrArg) {
		t.Errorf("got %v, %v", between, accrue)
	}
}
