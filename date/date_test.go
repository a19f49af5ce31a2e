package date_test

import (
	"errors"
	"math"
	"slices"
	"testing"
	"time"

	"trivet/api"
	"trivet/date"
)

// first and last are the numbers of January 1, 1900, and of December 31, 2199.
const first, last = -25567, 84005

// on is short for a date.
func on(y, m, d int) api.Date { return api.Date{Y: y, M: m, D: d} }

// far are numbers far outside of all limits.
var far = []int{math.MinInt, math.MinInt + 1, math.MinInt32, -1 << 20, 1 << 20, math.MaxInt32, math.MaxInt - 1, math.MaxInt}

// noDates are none: of a year, a month or a day just outside and far from it.
func noDates() []api.Date {
	l := []api.Date{
		{}, on(1899, 12, 31), on(2200, 1, 1), on(0, 1, 1), on(-2000, 1, 1), on(12000, 1, 1),
		on(2026, 0, 1), on(2026, 13, 1), on(2026, -1, 1), on(2026, 1, 0), on(2026, 1, -1), on(2026, 1, 32),
		on(2026, 4, 31), on(2026, 6, 31), on(2026, 9, 31), on(2026, 11, 31), on(2026, 12, 32),
		on(2026, 2, 29), on(2024, 2, 30), on(1900, 2, 29), on(2000, 2, 30), on(2100, 2, 29), on(2199, 12, 32),
	}
	for _, n := range far {
		l = append(l, on(n, 6, 15), on(2026, n, 15), on(2026, 6, n), on(n, n, n))
	}
	return l
}

// day is one with what it has.
type day struct {
	date            api.Date
	number, weekday int
}

// model are all days, counted one by one by the words of the chapter.
func model() []day {
	var l []day
	number, weekday := first, 1 // a Monday
	for y := 1900; y <= 2199; y++ {
		for m := 1; m <= 12; m++ {
			for d := 1; d <= modelDays(y, m); d++ {
				l = append(l, day{on(y, m, d), number, weekday})
				number, weekday = number+1, (weekday+1)%7
			}
		}
	}
	return l
}

// modelDays is how many days a month has that is one.
func modelDays(y, m int) int {
	switch m {
	case 4, 6, 9, 11:
		return 30
	case 2:
		if y%400 == 0 || y%4 == 0 && y%100 != 0 {
			return 29
		}
		return 28
	}
	return 31
}

// check holds an answer against what it is to be; an error is to be the number itself.
func check[T comparable](t *testing.T, got T, err error, want T, wanted error, call ...any) {
	t.Helper()
	if got != want || err != wanted {
		t.Errorf("%v: got %v, %v; want %v, %v", call, got, err, want, wanted)
	}
}

// The model itself: it is of as many days as there are, and its days are those of the library.
func TestModel(t *testing.T) {
	l := model()
	if len(l) != last-first+1 || l[len(l)-1].date != on(2199, 12, 31) {
		t.Fatalf("%d days, to %v", len(l), l[len(l)-1])
	}
	for _, x := range l {
		then := time.Unix(int64(x.number)*86400, 0).UTC()
		y, m, d := then.Date()
		if x.date != on(y, int(m), d) || x.weekday != int(then.Weekday()) {
			t.Fatalf("%v: the library has %v", x, then)
		}
	}
}

// P4.1: ordinary dates and years, leap years' rules, and both ends.
func TestMay(t *testing.T) {
	for _, d := range []api.Date{
		on(1900, 1, 1), on(2199, 12, 31), on(2026, 11, 15), on(1970, 1, 1), on(2026, 2, 28),
		on(2024, 2, 29), on(2000, 2, 29), on(1904, 2, 29), on(2196, 2, 29), on(1900, 2, 28), on(2100, 2, 28),
		on(2026, 1, 31), on(2026, 3, 31), on(2026, 4, 30), on(2026, 5, 31), on(2026, 6, 30), on(2026, 7, 31),
		on(2026, 8, 31), on(2026, 9, 30), on(2026, 10, 31), on(2026, 11, 30), on(2026, 12, 31),
	} {
		if !date.May(d) {
			t.Errorf("May(%v): got false", d)
		}
	}
	for _, d := range noDates() {
		if date.May(d) {
			t.Errorf("May(%v): got true", d)
		}
	}
}

// P4.1: around all dates, one is just what the model has.
func TestMayOfAll(t *testing.T) {
	may := make(map[api.Date]bool)
	for _, x := range model() {
		may[x.date] = true
	}
	for y := 1890; y <= 2210; y++ {
		for m := -2; m <= 15; m++ {
			for d := -2; d <= 34; d++ {
				if date.May(on(y, m, d)) != may[on(y, m, d)] {
					t.Errorf("May(%d, %d, %d): got %v", y, m, d, !may[on(y, m, d)])
				}
			}
		}
	}
}

// P4.1: each month of each year has its days.
func TestDays(t *testing.T) {
	for y := 1900; y <= 2199; y++ {
		for m := 1; m <= 12; m++ {
			if got := date.Days(y, m); got != modelDays(y, m) {
				t.Errorf("Days(%d, %d): got %d", y, m, got)
			}
		}
	}
	year := func(y int) []int {
		var l []int
		for m := 1; m <= 12; m++ {
			l = append(l, date.Days(y, m))
		}
		return l
	}
	for y, february := range map[int]int{1900: 28, 1904: 29, 1999: 28, 2000: 29, 2023: 28, 2024: 29, 2100: 28, 2196: 29, 2199: 28} {
		if got := year(y); !slices.Equal(got, []int{31, february, 31, 30, 31, 30, 31, 31, 30, 31, 30, 31}) {
			t.Errorf("Days of %d: got %v", y, got)
		}
	}
}

// P4.1: no days, where there is no such month of these years.
func TestDaysOfWrong(t *testing.T) {
	for _, m := range append([]int{-12, -1, 0, 1, 2, 6, 12, 13, 24}, far...) {
		for _, y := range append([]int{-1900, -1, 0, 1, 1896, 1899, 2200, 2204, 2400}, far...) {
			if got := date.Days(y, m); got != 0 {
				t.Errorf("Days(%d, %d): got %d", y, m, got)
			}
		}
		if got := date.Days(2024, m); (m < 1 || m > 12) && got != 0 {
			t.Errorf("Days(2024, %d): got %d", m, got)
		}
	}
}

// P4.2: ordinary days and both ends, the chapter's example first.
func TestNumberAndOf(t *testing.T) {
	for _, x := range []struct {
		date   api.Date
		number int
	}{
		{on(1970, 1, 1), 0}, {on(1970, 1, 2), 1}, {on(1969, 12, 31), -1}, {on(1970, 2, 1), 31}, {on(1971, 1, 1), 365},
		{on(1900, 1, 1), first}, {on(1900, 3, 1), first + 59}, {on(2199, 12, 31), last}, {on(2199, 1, 1), last - 364},
		{on(2000, 2, 29), 11016}, {on(2000, 3, 1), 11017}, {on(2020, 1, 1), 18262}, {on(2024, 2, 29), 19782},
		{on(2024, 12, 31), 20088}, {on(2026, 11, 15), 20772}, {on(2100, 2, 28), 47540}, {on(2100, 3, 1), 47541},
	} {
		n, err := date.Number(x.date)
		check(t, n, err, x.number, nil, "Number", x.date)
		d, err := date.Of(x.number)
		check(t, d, err, x.date, nil, "Of", x.number)
	}
}

// P4.2: all dates and all numbers.
func TestNumberAndOfAll(t *testing.T) {
	for _, x := range model() {
		n, err := date.Number(x.date)
		check(t, n, err, x.number, nil, "Number", x.date)
		d, err := date.Of(x.number)
		check(t, d, err, x.date, nil, "Of", x.number)
	}
}

// P4.2: no number of no date, and no date of a number outside.
func TestNumberAndOfWrong(t *testing.T) {
	for _, d := range noDates() {
		n, err := date.Number(d)
		check(t, n, err, 0, api.ErrForm, "Number", d)
	}
	for _, n := range append([]int{first - 1, first - 365, first - 366, last + 1, last + 365, last + 366}, far...) {
		d, err := date.Of(n)
		check(t, d, err, api.Date{}, api.ErrArg, "Of", n)
	}
}

// P4.3: ordinary months and both ends, the chapter's example first.
func TestMonths(t *testing.T) {
	for _, x := range []struct {
		date api.Date
		n    int
		want api.Date
	}{
		{on(2024, 1, 31), 1, on(2024, 2, 29)}, {on(2023, 1, 31), 1, on(2023, 2, 28)}, {on(2024, 1, 30), 1, on(2024, 2, 29)},
		{on(2024, 1, 29), 1, on(2024, 2, 29)}, {on(2024, 1, 28), 1, on(2024, 2, 28)}, {on(2024, 1, 31), 3, on(2024, 4, 30)},
		{on(2024, 2, 29), 12, on(2025, 2, 28)}, {on(2024, 2, 29), 48, on(2028, 2, 29)}, {on(2024, 2, 29), 1, on(2024, 3, 29)},
		{on(2024, 3, 31), -1, on(2024, 2, 29)}, {on(2024, 3, 31), -13, on(2023, 2, 28)}, {on(2024, 1, 15), -13, on(2022, 12, 15)},
		{on(2023, 12, 31), 2, on(2024, 2, 29)}, {on(2026, 11, 15), 0, on(2026, 11, 15)}, {on(2026, 12, 31), 0, on(2026, 12, 31)},
		{on(2026, 12, 15), 1, on(2027, 1, 15)}, {on(2026, 1, 15), -1, on(2025, 12, 15)}, {on(2026, 6, 15), 12, on(2027, 6, 15)},
		{on(2026, 6, 15), 480, on(2066, 6, 15)}, {on(2026, 6, 15), -12, on(2025, 6, 15)},
		{on(1900, 1, 1), 3599, on(2199, 12, 1)}, {on(2199, 12, 31), -3599, on(1900, 1, 31)},
		{on(2199, 11, 30), 1, on(2199, 12, 30)}, {on(1900, 2, 28), -1, on(1900, 1, 28)}, {on(1999, 12, 31), -1198, on(1900, 2, 28)},
	} {
		d, err := date.Months(x.date, x.n)
		check(t, d, err, x.want, nil, "Months", x.date, x.n)
	}
}

// monthsModel goes month by month.
func monthsModel(d api.Date, n int) (api.Date, error) {
	y, m := d.Y, d.M
	for ; n > 0; n-- {
		if m++; m > 12 {
			y, m = y+1, 1
		}
	}
	for ; n < 0; n++ {
		if m--; m < 1 {
			y, m = y-1, 12
		}
	}
	if y < 1900 || y > 2199 {
		return api.Date{}, api.ErrArg
	}
	return on(y, m, min(d.D, modelDays(y, m))), nil
}

// P4.3: from days of all years, as many months as there are and more.
func TestMonthsOfMany(t *testing.T) {
	for y := 1900; y <= 2199; y += 13 {
		for _, day := range []api.Date{on(y, 1, 31), on(y, 2, 28), on(y, 4, 30), on(y, 7, 15), on(y, 12, 1), on(y, 12, 31)} {
			for n := -3700; n <= 3700; n += 37 {
				d, err := date.Months(day, n)
				want, wanted := monthsModel(day, n)
				check(t, d, err, want, wanted, "Months", day, n)
			}
		}
	}
	for _, day := range []api.Date{on(2024, 2, 29), on(2026, 10, 31)} {
		for n := -3700; n <= 3700; n++ {
			d, err := date.Months(day, n)
			want, wanted := monthsModel(day, n)
			check(t, d, err, want, wanted, "Months", day, n)
		}
	}
}

// P4.3: a month that is not of these years, and no date, which is told first.
func TestMonthsWrong(t *testing.T) {
	for _, x := range []struct {
		date api.Date
		n    int
	}{
		{on(2199, 12, 1), 1}, {on(2199, 12, 31), 1}, {on(2199, 1, 1), 12}, {on(1900, 1, 1), 3600}, {on(2026, 6, 1), 2083},
		{on(1900, 1, 31), -1}, {on(1900, 12, 31), -12}, {on(2199, 12, 31), -3600}, {on(2026, 6, 1), -1518},
	} {
		d, err := date.Months(x.date, x.n)
		check(t, d, err, api.Date{}, api.ErrArg, "Months", x.date, x.n)
	}
	for _, n := range far {
		for _, from := range []api.Date{on(1900, 1, 1), on(1970, 1, 1), on(2026, 11, 15), on(2199, 12, 31)} {
			d, err := date.Months(from, n)
			check(t, d, err, api.Date{}, api.ErrArg, "Months", from, n)
		}
	}
	for _, from := range noDates() {
		for _, n := range append([]int{-3600, -1, 0, 1, 3600}, far...) {
			d, err := date.Months(from, n)
			check(t, d, err, api.Date{}, api.ErrForm, "Months", from, n)
		}
	}
}

// P4.3: a week, the chapter's example first, and all days.
func TestWeekday(t *testing.T) {
	for i := range 7 {
		w, err := date.Weekday(on(2026, 11, 15+i))
		check(t, w, err, i, nil, "Weekday", 15+i)
	}
	for _, x := range []struct {
		date api.Date
		want int
	}{{on(1900, 1, 1), 1}, {on(1969, 7, 20), 0}, {on(1970, 1, 1), 4}, {on(2000, 2, 29), 2}, {on(2199, 12, 31), 2}} {
		w, err := date.Weekday(x.date)
		check(t, w, err, x.want, nil, "Weekday", x.date)
	}
	for _, x := range model() {
		w, err := date.Weekday(x.date)
		check(t, w, err, x.weekday, nil, "Weekday", x.date)
	}
}

// P4.3: the last day of each day's month.
func TestLast(t *testing.T) {
	for _, x := range []struct{ date, want api.Date }{
		{on(2024, 2, 1), on(2024, 2, 29)}, {on(2023, 2, 28), on(2023, 2, 28)}, {on(2026, 11, 15), on(2026, 11, 30)},
		{on(1900, 2, 3), on(1900, 2, 28)}, {on(1900, 1, 1), on(1900, 1, 31)}, {on(2199, 12, 31), on(2199, 12, 31)},
	} {
		d, err := date.Last(x.date)
		check(t, d, err, x.want, nil, "Last", x.date)
	}
	for _, x := range model() {
		d, err := date.Last(x.date)
		check(t, d, err, on(x.date.Y, x.date.M, modelDays(x.date.Y, x.date.M)), nil, "Last", x.date)
	}
}

// P4.3: no weekday and no last day of no date.
func TestWeekdayAndLastWrong(t *testing.T) {
	for _, from := range noDates() {
		w, err := date.Weekday(from)
		check(t, w, err, 0, api.ErrForm, "Weekday", from)
		d, err := date.Last(from)
		check(t, d, err, api.Date{}, api.ErrForm, "Last", from)
	}
}

// P4.4: a number's date has that number; the next one's date is behind it, and its weekday the next.
func TestNextDays(t *testing.T) {
	earlier := -1
	for n := first; n <= last; n++ {
		d, err := date.Of(n)
		if !date.May(d) {
			t.Fatalf("Of(%d): got %v, %v", n, d, err)
		}
		back, err := date.Number(d)
		check(t, back, err, n, nil, "Number", d)
		w, err := date.Weekday(d)
		if err != nil || w < 0 || w > 6 || earlier >= 0 && w != (earlier+1)%7 {
			t.Errorf("Weekday(%v): got %d, %v, behind %d", d, w, err, earlier)
		}
		earlier = w
	}
}

// P4.4: up to the 28th, months behind months are all of them at once.
func TestMonthsBehindMonths(t *testing.T) {
	for _, from := range []api.Date{on(1900, 1, 1), on(1999, 12, 28), on(2024, 2, 28), on(2026, 11, 15), on(2199, 12, 28)} {
		for one := -3600; one <= 3600; one += 97 {
			middle, err := date.Months(from, one)
			if err != nil {
				continue
			}
			for two := -3600; two <= 3600; two += 89 {
				got, err := date.Months(middle, two)
				want, wanted := date.Months(from, one+two)
				check(t, got, err, want, wanted, "Months", from, one, two)
			}
		}
	}
}

// Errors are found by errors.Is, as all of the program's are.
func TestErrorsAreFound(t *testing.T) {
	_, number := date.Number(api.Date{})
	_, of := date.Of(math.MaxInt)
	_, months := date.Months(on(2199, 12, 1), 1)
	if !errors.Is(number, api.ErrForm) || !errors.Is(of, api.ErrArg) || !errors.Is(months, api.ErrArg) {
		t.Errorf("got %v, %v, %v", number, of, months)
	}
}
