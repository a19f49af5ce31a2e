package cents_test

import (
	"errors"
	"math"
	"math/big"
	"math/rand/v2"
	"slices"
	"testing"

	"trivet/api"
	"trivet/cents"
)

const (
	least    = math.MinInt64
	greatest = math.MaxInt64
)

var modes = []int{api.RoundDown, api.RoundUp, api.RoundNear, api.RoundEven}

// edges are numbers at which signs, halves and the room of 64 bits change what is answered.
func edges() []int64 {
	l := []int64{0, 1, 2, 3, 4, 5, 7, 10, 1 << 31, 1<<32 - 1, 1 << 32, 1<<32 + 1, 3037000499, 3037000500,
		api.MaxCents, 12 * api.Million, 1 << 61, 1<<62 - 1, 1 << 62, 1<<62 + 1, greatest - 1, greatest}
	for _, n := range slices.Clone(l) {
		l = append(l, -n)
	}
	return append(l, least)
}

// room is n, if 64 bits with a sign have room for it; else ErrOver.
func room(n *big.Int) (int64, error) {
	if !n.IsInt64() {
		return 0, api.ErrOver
	}
	return n.Int64(), nil
}

// quotient is a times b by c, rounded as the chapter's words say it, by numbers that never go round.
func quotient(a, b, c int64, mode int) (int64, error) {
	product := new(big.Int).Mul(big.NewInt(a), big.NewInt(b))
	divisor := big.NewInt(c)
	if c < 0 {
		product.Neg(product)
		divisor.Neg(divisor)
	}
	down, rest := new(big.Int).DivMod(product, divisor, new(big.Int)) // rest is 0 or above it
	up := new(big.Int).Set(down)
	if rest.Sign() != 0 {
		up.Add(up, big.NewInt(1))
	}
	half := new(big.Int).Lsh(rest, 1).Cmp(divisor) // rest against a half of the divisor
	switch mode {
	case api.RoundDown:
		return room(down)
	case api.RoundUp:
		return room(up)
	case api.RoundNear:
		if half > 0 || half == 0 && product.Sign() > 0 {
			return room(up)
		}
	case api.RoundEven:
		if half > 0 || half == 0 && down.Bit(0) == 1 {
			return room(up)
		}
	}
	return room(down)
}

// check holds an answer against what it is to be; an error is to be the number itself, and leaves 0 beside it.
func check(t *testing.T, got int64, err error, want int64, wanted error, call ...any) {
	t.Helper()
	if got != want || err != wanted {
		t.Errorf("%v: got %d, %v; want %d, %v", call, got, err, want, wanted)
	}
}

// P1.1: ordinary numbers.
func TestOrdinarySums(t *testing.T) {
	v, err := cents.Add(1250, -300)
	check(t, v, err, 950, nil, "Add")
	v, err = cents.Sub(1250, -300)
	check(t, v, err, 1550, nil, "Sub")
	v, err = cents.Mul(-1250, 12)
	check(t, v, err, -15000, nil, "Mul")
	v, err = cents.Sum(1, 20, 300, -4000)
	check(t, v, err, -3679, nil, "Sum")
}

// P1.1: just inside the room of 64 bits, and just outside.
func TestRoomOfTwo(t *testing.T) {
	for _, x := range []struct {
		name string
		call func(a, b int64) (int64, error)
		a, b int64
		want int64
		err  error
	}{
		{"Add", cents.Add, greatest - 1, 1, greatest, nil},
		{"Add", cents.Add, greatest, 1, 0, api.ErrOver},
		{"Add", cents.Add, greatest, greatest, 0, api.ErrOver},
		{"Add", cents.Add, least + 1, -1, least, nil},
		{"Add", cents.Add, least, -1, 0, api.ErrOver},
		{"Add", cents.Add, least, least, 0, api.ErrOver},
		{"Add", cents.Add, least, greatest, -1, nil},
		{"Sub", cents.Sub, -1, least, greatest, nil},
		{"Sub", cents.Sub, 0, least, 0, api.ErrOver},
		{"Sub", cents.Sub, least, 1, 0, api.ErrOver},
		{"Sub", cents.Sub, least + 1, 1, least, nil},
		{"Sub", cents.Sub, least, least, 0, nil},
		{"Sub", cents.Sub, greatest, -1, 0, api.ErrOver},
		{"Sub", cents.Sub, greatest, greatest, 0, nil},
		{"Mul", cents.Mul, least, 1, least, nil},
		{"Mul", cents.Mul, least, -1, 0, api.ErrOver},
		{"Mul", cents.Mul, -1, least, 0, api.ErrOver},
		{"Mul", cents.Mul, least, 0, 0, nil},
		{"Mul", cents.Mul, greatest, -1, -greatest, nil},
		{"Mul", cents.Mul, 1 << 32, 1 << 31, 0, api.ErrOver},
		{"Mul", cents.Mul, 1 << 32, -1 << 31, least, nil},
		{"Mul", cents.Mul, 1 << 32, 1 << 32, 0, api.ErrOver},
		{"Mul", cents.Mul, least, least, 0, api.ErrOver},
	} {
		v, err := x.call(x.a, x.b)
		check(t, v, err, x.want, x.err, x.name, x.a, x.b)
	}
}

// P1.1: every pair of edges, against numbers that never go round.
func TestPairsOfEdges(t *testing.T) {
	for _, a := range edges() {
		for _, b := range edges() {
			x, y := big.NewInt(a), big.NewInt(b)
			want, wanted := room(new(big.Int).Add(x, y))
			v, err := cents.Add(a, b)
			check(t, v, err, want, wanted, "Add", a, b)
			v, err = cents.Sum(a, b)
			check(t, v, err, want, wanted, "Sum", a, b)
			want, wanted = room(new(big.Int).Sub(x, y))
			v, err = cents.Sub(a, b)
			check(t, v, err, want, wanted, "Sub", a, b)
			want, wanted = room(new(big.Int).Mul(x, y))
			v, err = cents.Mul(a, b)
			check(t, v, err, want, wanted, "Mul", a, b)
		}
	}
}

// P1.1: of none the sum is 0; parts without room don't matter, a whole without room does.
func TestSumOfMany(t *testing.T) {
	for _, x := range []struct {
		l    []int64
		want int64
		err  error
	}{
		{nil, 0, nil},
		{[]int64{}, 0, nil},
		{[]int64{least}, least, nil},
		{[]int64{greatest}, greatest, nil},
		{[]int64{greatest, 1, -1}, greatest, nil},
		{[]int64{least, -1, 1}, least, nil},
		{[]int64{greatest, greatest, greatest, -greatest, -greatest, 5}, 0, api.ErrOver},
		{[]int64{greatest, greatest, greatest, -greatest, -greatest, -5}, greatest - 5, nil},
		{[]int64{least, least, greatest, greatest, 1}, -1, nil},
		{[]int64{least, least, greatest, greatest, 1, 1}, 0, nil},
		{[]int64{1 << 62, 1 << 62}, 0, api.ErrOver},
		{[]int64{-1 << 62, -1 << 62}, least, nil},
		{[]int64{-1 << 62, -1 << 62, -1}, 0, api.ErrOver},
		{[]int64{1 << 62, 1 << 62, 1 << 62, 1 << 62}, 0, api.ErrOver}, // 2^64 would go round to 0
		{[]int64{least, least}, 0, api.ErrOver},                       // so would -2^64
		{[]int64{least, least, 5}, 0, api.ErrOver},
		{[]int64{least, least, least}, 0, api.ErrOver},
	} {
		v, err := cents.Sum(x.l...)
		check(t, v, err, x.want, x.err, "Sum", x.l)
	}
	v, err := cents.Sum()
	check(t, v, err, 0, nil, "Sum of none")
}

// P1.1: parts may go as far from 0 as they like.
func TestSumOfFarParts(t *testing.T) {
	var l []int64
	for range 1000 {
		l = append(l, least)
	}
	_, err := cents.Sum(l...)
	check(t, 0, err, 0, api.ErrOver, "1000 of the least")
	for range 1000 {
		l = append(l, greatest)
	}
	v, err := cents.Sum(l...)
	check(t, v, err, -1000, nil, "and 1000 of the greatest")
}

// P1.1: the order of a sum's parts doesn't matter, and the whole is exact.
func TestSumAgainstBig(t *testing.T) {
	from := rand.New(rand.NewPCG(1, 2))
	all := edges()
	for range 20000 {
		l := make([]int64, from.IntN(8))
		whole := new(big.Int)
		for i := range l {
			l[i] = all[from.IntN(len(all))]
			whole.Add(whole, big.NewInt(l[i]))
		}
		want, wanted := room(whole)
		v, err := cents.Sum(l...)
		check(t, v, err, want, wanted, "Sum", l)
		slices.Reverse(l)
		v, err = cents.Sum(l...)
		check(t, v, err, want, wanted, "Sum, the other way round", l)
	}
}

// P1.2: each way of rounding: whole quotients, less than a half, halves, more than a half, both signs.
func TestRounding(t *testing.T) {
	for _, x := range []struct {
		a, c int64
		want [4]int64 // down, up, near, even
	}{
		{0, 4, [4]int64{0, 0, 0, 0}},
		{8, 4, [4]int64{2, 2, 2, 2}},
		{-8, 4, [4]int64{-2, -2, -2, -2}},
		{1, 4, [4]int64{0, 1, 0, 0}},
		{-1, 4, [4]int64{-1, 0, 0, 0}},
		{2, 4, [4]int64{0, 1, 1, 0}},
		{-2, 4, [4]int64{-1, 0, -1, 0}},
		{3, 4, [4]int64{0, 1, 1, 1}},
		{-3, 4, [4]int64{-1, 0, -1, -1}},
		{5, 4, [4]int64{1, 2, 1, 1}},
		{6, 4, [4]int64{1, 2, 2, 2}},
		{-6, 4, [4]int64{-2, -1, -2, -2}},
		{7, 4, [4]int64{1, 2, 2, 2}},
		{10, 4, [4]int64{2, 3, 3, 2}},
		{-10, 4, [4]int64{-3, -2, -3, -2}},
		{5, 3, [4]int64{1, 2, 2, 2}},
		{4, 3, [4]int64{1, 2, 1, 1}},
		{7, 2, [4]int64{3, 4, 4, 4}},
		{-7, 2, [4]int64{-4, -3, -4, -4}},
		{5, 2, [4]int64{2, 3, 3, 2}},
		{-5, 2, [4]int64{-3, -2, -3, -2}},
	} {
		for i, mode := range modes {
			v, err := cents.MulDiv(x.a, 1, x.c, mode)
			check(t, v, err, x.want[i], nil, "MulDiv", x.a, 1, x.c, mode)
			v, err = cents.MulDiv(-1, x.a, -x.c, mode)
			check(t, v, err, x.want[i], nil, "MulDiv", -1, x.a, -x.c, mode)
		}
	}
}

// P1.2: the product may have no room where the quotient has.
func TestRoomOfQuotient(t *testing.T) {
	for _, x := range []struct {
		a, b, c int64
		want    int64
		err     error
	}{
		{greatest, greatest, greatest, greatest, nil},
		{least, least, least, least, nil},
		{least, greatest, greatest, least, nil},
		{least, -1, -1, least, nil},
		{1 << 62, -6, 3, least, nil},
		{1 << 62, 6, 4, 3 << 61, nil},
		{least, least, greatest, 0, api.ErrOver},
		{least, -1, 1, 0, api.ErrOver},
		{least, 1, -1, 0, api.ErrOver},
		{greatest, least, 1, 0, api.ErrOver},
		{1 << 62, 6, 3, 0, api.ErrOver},
		{1 << 62, 4, 1, 0, api.ErrOver}, // 2^64 would go round to 0
		{least, least, 1, 0, api.ErrOver},
	} {
		for _, mode := range modes {
			v, err := cents.MulDiv(x.a, x.b, x.c, mode)
			check(t, v, err, x.want, x.err, "MulDiv", x.a, x.b, x.c, mode)
		}
	}
}

// P1.2: what has room or hasn't is the quotient as it is rounded.
func TestRoundingAtTheEdgeOfRoom(t *testing.T) {
	const over = 99 // stands for ErrOver: none of these comes to it
	for _, x := range []struct {
		name    string
		a, b, c int64
		want    [4]int64 // down, up, near, even
	}{
		{"2^63 - 1/2", (1<<64 - 1) / 3, 3, 2, [4]int64{greatest, over, over, over}},
		{"1/2 - 2^63", (1<<64 - 1) / 3, -3, 2, [4]int64{least, -greatest, least, least}},
		{"-1/2 - 2^63", (1<<64 + 1) / 274177, 274177, -2, [4]int64{over, least, over, least}},
		{"2^63 + 1/2", (1<<64 + 1) / 274177, 274177, 2, [4]int64{over, over, over, over}},
		{"2^64 - 1/2", (1<<65 - 1) / 8191, 8191, 2, [4]int64{over, over, over, over}},
		{"1/2 - 2^64", (1<<65 - 1) / 8191, 8191, -2, [4]int64{over, over, over, over}},
		{"1 / 2^63", 1, -1, least, [4]int64{0, 1, 0, 0}},
		{"-1 / 2^63", 1, 1, least, [4]int64{-1, 0, 0, 0}},
		{"1/2 of 2^63", 1 << 62, 1, least, [4]int64{-1, 0, -1, 0}},
		{"less than 1/2 of 2^63", 1<<62 - 1, 1, least, [4]int64{-1, 0, 0, 0}},
		{"more than 1/2 of 2^63", 1<<62 + 1, 1, least, [4]int64{-1, 0, -1, -1}},
		{"greatest by least", greatest, 1, least, [4]int64{-1, 0, -1, -1}},
	} {
		for i, mode := range modes {
			v, err := cents.MulDiv(x.a, x.b, x.c, mode)
			if x.want[i] == over {
				check(t, v, err, 0, api.ErrOver, x.name, mode)
			} else {
				check(t, v, err, x.want[i], nil, x.name, mode)
			}
		}
	}
}

// P1.2: a divisor of 0, and ways of rounding that are none; they go ahead of a quotient without room.
func TestWrongArguments(t *testing.T) {
	for _, a := range edges() {
		for _, mode := range modes {
			v, err := cents.MulDiv(a, a, 0, mode)
			check(t, v, err, 0, api.ErrArg, "MulDiv", a, a, 0, mode)
		}
		for _, mode := range []int{0, -1, 5, 6, math.MinInt, math.MaxInt} {
			for _, c := range []int64{1, -1, 0, 7} {
				v, err := cents.MulDiv(a, a, c, mode)
				check(t, v, err, 0, api.ErrArg, "MulDiv", a, a, c, mode)
			}
		}
	}
}

// P1.2: every triple of edges, against numbers that never go round.
func TestTriplesOfEdges(t *testing.T) {
	all := edges()
	for _, a := range all {
		for _, b := range all {
			for _, c := range all {
				checkQuotient(t, a, b, c)
			}
		}
	}
}

// P1.2: numbers of all sizes, and quotients close to a half, or to the end of the room.
func TestQuotientAgainstBig(t *testing.T) {
	from := rand.New(rand.NewPCG(3, 4))
	number := func() int64 { return int64(from.Uint64()) >> from.IntN(64) }
	for range 50000 {
		a, b, c := number(), number(), number()
		checkQuotient(t, a, b, c)
		checkQuotient(t, a, c, b)
		half := number() >> 2
		checkQuotient(t, 2*half+1, b, 2*b) // halves, where 2 b doesn't go round
		checkQuotient(t, greatest-from.Int64N(4), c+from.Int64N(3)-1, c)
	}
}

func checkQuotient(t *testing.T, a, b, c int64) {
	t.Helper()
	if c == 0 {
		return
	}
	for _, mode := range modes {
		want, wanted := quotient(a, b, c, mode)
		v, err := cents.MulDiv(a, b, c, mode)
		check(t, v, err, want, wanted, "MulDiv", a, b, c, mode)
	}
}

// P1.3: a list that is summed stays as it is, and what becomes of it later doesn't matter.
func TestNothingIsChangedOrKept(t *testing.T) {
	l := []int64{least, greatest, 5, -7, greatest}
	before := slices.Clone(l)
	first, err := cents.Sum(l[:4]...)
	check(t, first, err, -3, nil, "Sum")
	if !slices.Equal(l, before) {
		t.Errorf("the list became %v, it was %v", l, before)
	}
	l[2] = 6
	v, err := cents.Sum(l[:4]...)
	check(t, v, err, -2, nil, "Sum of the changed list")
	v, err = cents.Sum(before[:4]...)
	check(t, v, err, first, nil, "Sum, once more")
}

// P1.4: down is never above up, and at most 1 below; both others are one of them.
func TestWaysOfRoundingTogether(t *testing.T) {
	for _, a := range edges() {
		for _, b := range []int64{1, -1, 2, 3, -3, api.MaxRate, greatest, least} {
			for _, c := range edges() {
				if c != 0 {
					checkTogether(t, a, b, c)
				}
			}
		}
	}
}

func checkTogether(t *testing.T, a, b, c int64) {
	t.Helper()
	down, noDown := cents.MulDiv(a, b, c, api.RoundDown)
	up, noUp := cents.MulDiv(a, b, c, api.RoundUp)
	if noDown == nil && noUp == nil && up != down && (down > up || up-down != 1) {
		t.Errorf("%d times %d by %d: down %d, up %d", a, b, c, down, up)
	}
	for _, mode := range []int{api.RoundNear, api.RoundEven} {
		v, err := cents.MulDiv(a, b, c, mode)
		if !(v == down && err == noDown) && !(v == up && err == noUp) {
			t.Errorf("%d times %d by %d: way %d is %d, %v; down %d, up %d", a, b, c, mode, v, err, down, up)
		}
	}
}

// P1.4: by 1 it is the product.
func TestByOneIsTheProduct(t *testing.T) {
	for _, a := range edges() {
		for _, b := range edges() {
			want, wanted := cents.Mul(a, b)
			for _, mode := range modes {
				v, err := cents.MulDiv(a, b, 1, mode)
				check(t, v, err, want, wanted, "MulDiv", a, b, 1, mode)
			}
		}
	}
}

// P1.4: with both signs turned, of the product and of the divisor, the quotient is the same.
func TestBothSignsTurned(t *testing.T) {
	for _, a := range edges() {
		for _, b := range edges() {
			for _, c := range edges() {
				if a == least || c == least || c == 0 {
					continue // those can't be turned, and that is no divisor
				}
				for _, mode := range modes {
					want, wanted := cents.MulDiv(a, b, c, mode)
					v, err := cents.MulDiv(-a, b, -c, mode)
					check(t, v, err, want, wanted, "MulDiv", -a, b, -c, mode)
				}
			}
		}
	}
}

// The chapter's examples, and that the errors are found by errors.Is.
func TestExamples(t *testing.T) {
	v, err := cents.MulDiv(-7, 1, 2, api.RoundDown)
	check(t, v, err, -4, nil, "MulDiv(-7, 1, 2, RoundDown)")
	v, err = cents.MulDiv(5, 1, 2, api.RoundEven)
	check(t, v, err, 2, nil, "MulDiv(5, 1, 2, RoundEven)")
	if _, err := cents.Sum(greatest, 1); !errors.Is(err, api.ErrOver) {
		t.Error(err)
	}
	if _, err := cents.MulDiv(1, 1, 0, api.RoundUp); !errors.Is(err, api.ErrArg) {
		t.Error(err)
	}
}
