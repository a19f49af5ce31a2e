package split_test

import (
	"errors"
	"math"
	"math/big"
	"math/rand/v2"
	"slices"
	"testing"

	"trivet/api"
	"trivet/split"
)

// wrongMoney is none: just outside the limits and far from them.
var wrongMoney = []int64{-1, -100, -api.MaxCents, math.MinInt64, api.MaxCents + 1, math.MaxInt64}

// totals are ordinary ones and both ends.
func totals() []int64 {
	return []int64{0, 1, 2, 3, 7, 10, 11, 99, 100, 101, 479, 480, 481, 1200, 123457, 9999999999, api.MaxCents - 1, api.MaxCents}
}

// listsOfWeights are ordinary ones, some with weights of 0 among them, and edges of weights and of their number.
func listsOfWeights() [][]int64 {
	long := make([]int64, api.MaxShares)
	for i := range long {
		long[i] = int64(i % 7)
	}
	return [][]int64{
		{1}, {2}, {api.MaxCents},
		{1, 1}, {1, 2}, {2, 1}, {0, 1}, {1, 0}, {api.MaxCents, 1}, {1, api.MaxCents}, {api.MaxCents, api.MaxCents},
		{1, 1, 1}, {1, 0, 5, 6}, {6, 5, 0, 1}, {3, 3, 1}, {1, 3, 3}, {0, 0, 7, 0}, {2, 4, 6, 8},
		{7, 11, 13, 17, 19}, {5, 5, 5, 5, 5, 5, 5}, {999983, 999979, 1},
		slices.Repeat([]int64{1}, api.MaxShares),
		slices.Repeat([]int64{api.MaxCents}, api.MaxShares),
		slices.Repeat([]int64{0, 3, api.MaxCents - 1}, api.MaxShares/3),
		long,
	}
}

// model is the shares as the chapter's words say them, one cent after the other, by fractions that are exact.
func model(total int64, weights []int64) []int64 {
	together := new(big.Int)
	for _, weight := range weights {
		together.Add(together, big.NewInt(weight))
	}
	shares := make([]int64, len(weights))
	cut := make([]*big.Rat, len(weights))
	left := total
	for i, weight := range weights {
		product := new(big.Int).Mul(big.NewInt(total), big.NewInt(weight))
		whole := new(big.Int).Div(product, together)
		shares[i] = whole.Int64()
		cut[i] = new(big.Rat).SetFrac(product, together)
		cut[i].Sub(cut[i], new(big.Rat).SetInt(whole))
		left -= shares[i]
	}
	for range left {
		most := 0
		for i := range cut {
			if cut[i].Cmp(cut[most]) > 0 {
				most = i
			}
		}
		shares[most]++
		cut[most] = big.NewRat(-1, 1) // it has got its one
	}
	return shares
}

// modelEven is the same of equal weights, whose quotients are all cut off by as much.
func modelEven(total int64, n int) []int64 {
	shares := make([]int64, n)
	for i := range shares {
		shares[i] = total / int64(n)
		if int64(i) < total%int64(n) {
			shares[i]++
		}
	}
	return shares
}

// check holds an answer against what it is to be; an error is to be the number itself, and leaves no list beside it.
func check(t *testing.T, got []int64, err error, want []int64, wanted error, call ...any) {
	t.Helper()
	if !slices.Equal(got, want) || err != wanted {
		t.Errorf("%v: got %v, %v; want %v, %v", call, got, err, want, wanted)
	}
}

// P3.1: ordinary numbers, the chapter's example first.
func TestShares(t *testing.T) {
	for _, x := range []struct {
		total   int64
		weights []int64
		want    []int64
	}{
		{100, []int64{1, 1, 1}, []int64{34, 33, 33}},
		{10, []int64{1, 0, 5, 6}, []int64{1, 0, 4, 5}}, // 0.83, 0, 4.17, 5
		{101, []int64{1, 1, 1}, []int64{34, 34, 33}},
		{102, []int64{1, 1, 1}, []int64{34, 34, 34}},
		{10, []int64{1, 2}, []int64{3, 7}}, // 3.33, 6.67
		{10, []int64{2, 1}, []int64{7, 3}},
		{11, []int64{3, 3, 1}, []int64{5, 5, 1}}, // 4.71, 4.71, 1.57
		{10, []int64{3, 3, 1}, []int64{4, 4, 2}}, // 4.29, 4.29, 1.43
		{9, []int64{3, 3, 1}, []int64{4, 4, 1}},  // 3.86, 3.86, 1.29
		{8, []int64{3, 3, 1}, []int64{4, 3, 1}},  // 3.43, 3.43, 1.14
		{8, []int64{1, 3, 3}, []int64{1, 4, 3}},
		{1, []int64{1, 2, 2}, []int64{0, 1, 0}},
		{1, []int64{0, 0, 1}, []int64{0, 0, 1}},
		{5, []int64{0, 7, 0}, []int64{0, 5, 0}},
		{0, []int64{1, 2, 3}, []int64{0, 0, 0}},
		{1200, []int64{75, 25}, []int64{900, 300}},
		{7, []int64{4}, []int64{7}},
		{api.MaxCents, []int64{api.MaxCents}, []int64{api.MaxCents}},
		{api.MaxCents, []int64{1, api.MaxCents}, []int64{1, api.MaxCents - 1}},
		{1, []int64{1, api.MaxCents}, []int64{0, 1}},
		{api.MaxCents, []int64{1, 1, 1}, []int64{3333333333334, 3333333333333, 3333333333333}},
	} {
		shares, err := split.Shares(x.total, x.weights)
		check(t, shares, err, x.want, nil, "Shares", x.total, x.weights)
	}
}

// P3.1: all that is answered is what the model answers, at the edges of totals and of weights.
func TestSharesAtEdges(t *testing.T) {
	for _, total := range totals() {
		for _, weights := range listsOfWeights() {
			shares, err := split.Shares(total, weights)
			check(t, shares, err, model(total, weights), nil, "Shares", total, weights)
		}
	}
}

// P3.1, P3.4: small numbers, all of them, so that each tie is met.
func TestSharesOfSmall(t *testing.T) {
	for total := range int64(12) {
		for code := 1; code < 6*6*6*6; code++ {
			weights := []int64{int64(code % 6), int64(code / 6 % 6), int64(code / 36 % 6), int64(code / 216)}
			shares, err := split.Shares(total, weights)
			check(t, shares, err, model(total, weights), nil, "Shares", total, weights)
			checkWhatFollows(t, total, weights, shares)
		}
	}
}

// anyWeights are of any number up to MaxShares and of any size, many of them equal or 0.
func anyWeights(r *rand.Rand) []int64 {
	weights := make([]int64, 1+r.IntN(api.MaxShares))
	greatest := []int64{1, 3, 1000, api.MaxCents}[r.IntN(4)]
	for i := range weights {
		weights[i] = r.Int64N(greatest + 1)
	}
	weights[r.IntN(len(weights))] = greatest // never all are 0
	return weights
}

// P3.1, P3.4: any numbers, and lists up to the longest.
func TestSharesOfAny(t *testing.T) {
	r := rand.New(rand.NewPCG(3, 1))
	for range 300 {
		total := r.Int64N([]int64{2, 100, 100000, api.MaxCents + 1}[r.IntN(4)])
		weights := anyWeights(r)
		shares, err := split.Shares(total, weights)
		check(t, shares, err, model(total, weights), nil, "Shares", total, weights)
		checkWhatFollows(t, total, weights, shares)
	}
}

// P3.1: a total that is none.
func TestSharesOfWrongTotal(t *testing.T) {
	for _, total := range wrongMoney {
		for _, weights := range append(listsOfWeights(), nil, []int64{0}, []int64{-1}) {
			shares, err := split.Shares(total, weights)
			check(t, shares, err, nil, api.ErrArg, "Shares", total, weights)
		}
	}
}

// P3.1: no weights, too many, all 0, and one that is none at any place.
func TestSharesOfWrongWeights(t *testing.T) {
	wrong := [][]int64{
		nil, {}, {0}, {0, 0, 0},
		make([]int64, api.MaxShares),
		make([]int64, api.MaxShares+1),
		slices.Repeat([]int64{1}, api.MaxShares+1),
		slices.Repeat([]int64{1}, 10000),
		{1, -1},                           // together 0
		{math.MaxInt64, math.MinInt64, 1}, // together 0, too
	}
	for _, n := range wrongMoney {
		wrong = append(wrong, []int64{n}, []int64{n, 5, 5}, []int64{5, n, 5}, []int64{5, 5, n}, []int64{0, n}, []int64{n, n, n, n})
		long := slices.Repeat([]int64{1}, api.MaxShares)
		long[api.MaxShares-1] = n
		wrong = append(wrong, long)
	}
	for _, weights := range wrong {
		for _, total := range totals() {
			shares, err := split.Shares(total, weights)
			check(t, shares, err, nil, api.ErrArg, "Shares", total, weights)
		}
	}
}

// P3.2: ordinary numbers and both ends.
func TestEven(t *testing.T) {
	for _, x := range []struct {
		total int64
		n     int
		want  []int64
	}{
		{11, 4, []int64{3, 3, 3, 2}},
		{12, 4, []int64{3, 3, 3, 3}},
		{13, 4, []int64{4, 3, 3, 3}},
		{100, 3, []int64{34, 33, 33}},
		{2, 3, []int64{1, 1, 0}},
		{0, 3, []int64{0, 0, 0}},
		{5, 1, []int64{5}},
		{0, 1, []int64{0}},
		{api.MaxCents, 1, []int64{api.MaxCents}},
		{api.MaxCents, 2, []int64{api.MaxCents / 2, api.MaxCents / 2}},
		{1, api.MaxShares, append([]int64{1}, make([]int64, api.MaxShares-1)...)},
	} {
		shares, err := split.Even(x.total, x.n)
		check(t, shares, err, x.want, nil, "Even", x.total, x.n)
	}
}

// P3.2: at each number of shares, all totals are shared as by the same weight, whatever it is.
func TestEvenIsOfTheSameWeight(t *testing.T) {
	for n := 1; n <= api.MaxShares; n++ {
		for _, total := range totals() {
			got, err := split.Even(total, n)
			check(t, got, err, modelEven(total, n), nil, "Even", total, n)
			shares, err := split.Shares(total, slices.Repeat([]int64{777}, n))
			check(t, shares, err, got, nil, "Shares of 777", total, n)
		}
	}
}

// P3.2: a total that is none, and a number of shares that is none.
func TestEvenOfWrong(t *testing.T) {
	for _, total := range wrongMoney {
		for _, n := range []int{-1, 0, 1, 3, api.MaxShares, api.MaxShares + 1} {
			shares, err := split.Even(total, n)
			check(t, shares, err, nil, api.ErrArg, "Even", total, n)
		}
	}
	for _, n := range []int{0, -1, -api.MaxShares, math.MinInt, api.MaxShares + 1, 1 << 40, math.MaxInt} {
		for _, total := range totals() {
			shares, err := split.Even(total, n)
			check(t, shares, err, nil, api.ErrArg, "Even", total, n)
		}
	}
}

// P3.3: weights stay, also behind what came after the list's end in its memory.
func TestWeightsStay(t *testing.T) {
	for _, total := range append(totals(), wrongMoney...) {
		for _, weights := range append(listsOfWeights(), []int64{5, -1, 0}, []int64{0, 0}) {
			memory := append(slices.Clone(weights), 41, 42, 43)
			before := slices.Clone(memory)
			split.Shares(total, memory[:len(weights)])
			if !slices.Equal(memory, before) {
				t.Errorf("Shares(%d, %v) changed the weights to %v", total, weights, memory)
			}
		}
	}
}

// P3.3: answers share no memory with the weights, nor with each other.
func TestSharesAreNewMemory(t *testing.T) {
	for _, weights := range [][]int64{{7}, {3, 2, 2}, {0, 7, 0}} {
		before := slices.Clone(weights)
		one, _ := split.Shares(7, weights)
		two, _ := split.Shares(7, weights)
		clear(one)
		check(t, weights, nil, before, nil, "weights behind a change of the shares")
		check(t, two, nil, model(7, before), nil, "shares behind a change of other shares")
		clear(weights)
		check(t, two, nil, model(7, before), nil, "shares behind a change of the weights")
		three, err := split.Shares(7, before)
		check(t, three, err, model(7, before), nil, "shares asked anew")
	}
	one, _ := split.Even(7, 3)
	two, _ := split.Even(7, 3)
	clear(one)
	check(t, two, nil, []int64{3, 2, 2}, nil, "even shares behind a change of other shares")
	three, err := split.Even(7, 3)
	check(t, three, err, []int64{3, 2, 2}, nil, "even shares asked anew")
}

// checkWhatFollows is P3.4 of one answer.
func checkWhatFollows(t *testing.T, total int64, weights, shares []int64) {
	t.Helper()
	together, summed := new(big.Int), int64(0)
	for i, weight := range weights {
		together.Add(together, big.NewInt(weight))
		summed += shares[i]
	}
	if summed != total {
		t.Errorf("Shares(%d, %v) sum to %d", total, weights, summed)
	}
	least := make(map[int64]int64) // by weights, of the shares so far
	for i, weight := range weights {
		product := new(big.Int).Mul(big.NewInt(total), big.NewInt(weight))
		off := product.Sub(product, new(big.Int).Mul(big.NewInt(shares[i]), together))
		if off.CmpAbs(together) >= 0 {
			t.Errorf("Shares(%d, %v)[%d] is %d, a cent or more from its quotient", total, weights, i, shares[i])
		}
		if weight == 0 && shares[i] != 0 {
			t.Errorf("Shares(%d, %v)[%d] is %d, of weight 0", total, weights, i, shares[i])
		}
		if before, met := least[weight]; met && before < shares[i] {
			t.Errorf("Shares(%d, %v)[%d] is %d, and an earlier one of that weight is %d", total, weights, i, shares[i], before)
		}
		least[weight] = shares[i]
	}
}

// P3.4: at the edges of totals and of weights.
func TestWhatFollows(t *testing.T) {
	for _, total := range totals() {
		for _, weights := range listsOfWeights() {
			shares, err := split.Shares(total, weights)
			if err != nil || len(shares) != len(weights) {
				t.Fatalf("Shares(%d, %v): got %v, %v", total, weights, shares, err)
			}
			checkWhatFollows(t, total, weights, shares)
		}
	}
}

// Errors are found by errors.Is, as all of the program's are.
func TestErrorsAreFound(t *testing.T) {
	_, shares := split.Shares(1, nil)
	_, even := split.Even(1, 0)
	if !errors.Is(shares, api.ErrArg) || !errors.Is(even, api.ErrArg) {
		t.Errorf("got %v, %v", shares, even)
	}
}
