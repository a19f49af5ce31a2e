package pack_test

import (
	"bytes"
	"errors"
	"math"
	"math/big"
	"math/rand/v2"
	"slices"
	"testing"

	"trivet/api"
	"trivet/pack"
)

const (
	least    = math.MinInt64
	greatest = math.MaxInt64
)

// edges are numbers at which a sign, or how many bytes there are, changes.
func edges() []int64 {
	l := []int64{0, 1, greatest - 1, greatest, math.MaxInt32, math.MaxInt32 + 1}
	for bit := 6; bit < 63; bit += 7 {
		l = append(l, 1<<bit-1, 1<<bit, 1<<bit+1)
	}
	for _, n := range slices.Clone(l) {
		l = append(l, -n, -n-1)
	}
	return l
}

// intEdges are those for which an int has room.
func intEdges() []int {
	var l []int
	for _, n := range edges() {
		if int64(int(n)) == n {
			l = append(l, int(n))
		}
	}
	return l
}

// anyNumber is small or great, on both sides of 0.
func anyNumber(r *rand.Rand) int64 { return int64(r.Uint64()) >> r.IntN(64) }

// anyCommand is of any numbers, as many as may be.
func anyCommand(r *rand.Rand) api.Cmd {
	c := api.Cmd{Kind: int(anyNumber(r)), Key: anyNumber(r), Loan: int(anyNumber(r))}
	for range r.IntN(api.MaxNumbers + 1) {
		c.N = append(c.N, anyNumber(r))
	}
	return c
}

// modelNumber writes one as the words of the chapter say it, by numbers that never go round.
func modelNumber(n int64) []byte {
	left := new(big.Int).Mul(big.NewInt(n), big.NewInt(2))
	if n < 0 {
		left.Neg(left)
		left.Sub(left, big.NewInt(1))
	}
	var b []byte
	for {
		digit := new(big.Int)
		left.DivMod(left, big.NewInt(128), digit)
		if left.Sign() == 0 {
			return append(b, byte(digit.Int64()))
		}
		b = append(b, byte(digit.Int64()+128))
	}
}

// modelPut writes number behind number.
func modelPut(c api.Cmd) []byte {
	var b []byte
	for _, n := range append([]int64{int64(c.Kind), c.Key, int64(c.Loan), int64(len(c.N))}, c.N...) {
		b = append(b, modelNumber(n)...)
	}
	return b
}

// modelGet cuts all of the bytes into numbers first, and asks then whether they are a command's.
func modelGet(b []byte) (api.Cmd, error) {
	var l []int64
	from := 0
	for i, digit := range b {
		if digit >= 128 {
			continue
		}
		n, ok := modelRead(b[from : i+1])
		if !ok {
			return api.Cmd{}, api.ErrForm
		}
		l = append(l, n)
		from = i + 1
	}
	if from != len(b) || len(l) < 4 || l[3] != int64(len(l)-4) || len(l) > 4+api.MaxNumbers {
		return api.Cmd{}, api.ErrForm
	}
	c := api.Cmd{Kind: int(l[0]), Key: l[1], Loan: int(l[2]), N: l[4:]}
	if int64(c.Kind) != l[0] || int64(c.Loan) != l[2] {
		return api.Cmd{}, api.ErrForm
	}
	return c, nil
}

// modelRead is the number of just these bytes, if they are as few as can be.
func modelRead(b []byte) (int64, bool) {
	if len(b) > 1 && b[len(b)-1] == 0 {
		return 0, false
	}
	folded := new(big.Int)
	for _, digit := range slices.Backward(b) {
		folded.Mul(folded, big.NewInt(128))
		folded.Add(folded, big.NewInt(int64(digit%128)))
	}
	half, odd := new(big.Int).DivMod(folded, big.NewInt(2), new(big.Int))
	if odd.Sign() != 0 {
		half.Neg(half)
		half.Sub(half, big.NewInt(1))
	}
	return half.Int64(), half.IsInt64()
}

// same tells whether both are the same command; no numbers may be nil or empty.
func same(c, d api.Cmd) bool {
	return c.Kind == d.Kind && c.Key == d.Key && c.Loan == d.Loan && slices.Equal(c.N, d.N)
}

// checkPut asks for a command's bytes; an error is to be the number itself, with no bytes beside it.
func checkPut(t *testing.T, c api.Cmd, want []byte, wanted error) {
	t.Helper()
	b, err := pack.Put(c)
	if !bytes.Equal(b, want) || err != wanted {
		t.Errorf("Put(%v): got % x, %v; want % x, %v", c, b, err, want, wanted)
	}
}

// checkGet asks for the command of bytes; an error is to be the number itself, with no command beside it.
func checkGet(t *testing.T, b []byte, want api.Cmd, wanted error) {
	t.Helper()
	c, err := pack.Get(b)
	if !same(c, want) || err != wanted {
		t.Errorf("Get(% x): got %v, %v; want %v, %v", b, c, err, want, wanted)
	}
}

// checkBoth asks for one's bytes, and for the command of them.
func checkBoth(t *testing.T, c api.Cmd, b []byte) {
	t.Helper()
	checkPut(t, c, b, nil)
	checkGet(t, b, c, nil)
}

// join is all of the bytes, one behind the other.
func join(l ...[]byte) []byte { return slices.Concat(l...) }

// P6.1, P6.2: ordinary commands, the chapter's example first.
func TestExamples(t *testing.T) {
	checkBoth(t, api.Cmd{Kind: 2, Key: -1, Loan: 64, N: []int64{3}}, []byte{0x04, 0x01, 0x80, 0x01, 0x02, 0x06})
	checkBoth(t, api.Cmd{}, []byte{0, 0, 0, 0})
	checkBoth(t, api.Cmd{Kind: 1, Key: 2, Loan: 3}, []byte{2, 4, 6, 0})
	checkBoth(t, api.Cmd{Kind: -1, Key: -2, Loan: -3}, []byte{1, 3, 5, 0})
	checkBoth(t, api.Cmd{Kind: api.CmdTick, Key: 100, N: []int64{31}}, []byte{18, 0xc8, 1, 0, 2, 62})
	checkBoth(t, api.Cmd{Kind: api.CmdPay, Key: 7, Loan: 5, N: []int64{150000}}, []byte{4, 14, 10, 2, 0xe0, 0xa7, 0x12})
	checkBoth(t, api.Cmd{Kind: api.CmdItem, Key: 8, Loan: 5, N: []int64{12, 10, -1}}, []byte{12, 16, 10, 6, 24, 20, 1})
	checkGet(t, []byte{0, 0, 0, 2, 0}, api.Cmd{N: []int64{0}}, nil)
	checkPut(t, api.Cmd{N: []int64{}}, []byte{0, 0, 0, 0}, nil)
}

// P6.1, P6.2: numbers at which there is a byte more, and both ends, at each place.
func TestNumbers(t *testing.T) {
	for _, x := range []struct {
		n     int64
		bytes []byte
	}{
		{0, []byte{0}}, {-1, []byte{1}}, {1, []byte{2}}, {-2, []byte{3}}, {63, []byte{0x7e}}, {-64, []byte{0x7f}},
		{64, []byte{0x80, 1}}, {-65, []byte{0x81, 1}}, {127, []byte{0xfe, 1}}, {-128, []byte{0xff, 1}}, {128, []byte{0x80, 2}},
		{8191, []byte{0xfe, 0x7f}}, {-8192, []byte{0xff, 0x7f}}, {8192, []byte{0x80, 0x80, 1}}, {-8193, []byte{0x81, 0x80, 1}},
		{math.MaxInt32, []byte{0xfe, 0xff, 0xff, 0xff, 0x0f}}, {math.MinInt32, []byte{0xff, 0xff, 0xff, 0xff, 0x0f}},
		{api.MaxCents, []byte{0x80, 0x80, 0x95, 0xe7, 0x89, 0xc6, 0x04}},
		{1<<62 - 1, []byte{0xfe, 0xff, 0xff, 0xff, 0xff, 0xff, 0xff, 0xff, 0x7f}},
		{-1 << 62, []byte{0xff, 0xff, 0xff, 0xff, 0xff, 0xff, 0xff, 0xff, 0x7f}},
		{1 << 62, []byte{0x80, 0x80, 0x80, 0x80, 0x80, 0x80, 0x80, 0x80, 0x80, 1}},
		{-1<<62 - 1, []byte{0x81, 0x80, 0x80, 0x80, 0x80, 0x80, 0x80, 0x80, 0x80, 1}},
		{greatest, []byte{0xfe, 0xff, 0xff, 0xff, 0xff, 0xff, 0xff, 0xff, 0xff, 1}},
		{least, []byte{0xff, 0xff, 0xff, 0xff, 0xff, 0xff, 0xff, 0xff, 0xff, 1}},
	} {
		checkBoth(t, api.Cmd{Key: x.n}, join([]byte{0}, x.bytes, []byte{0, 0}))
		checkBoth(t, api.Cmd{N: []int64{x.n}}, join([]byte{0, 0, 0, 2}, x.bytes))
		checkBoth(t, api.Cmd{N: []int64{5, x.n, 6}}, join([]byte{0, 0, 0, 6, 10}, x.bytes, []byte{12}))
		if int64(int(x.n)) != x.n {
			checkGet(t, join(x.bytes, []byte{0, 0, 0}), api.Cmd{}, api.ErrForm)
			checkGet(t, join([]byte{0, 0}, x.bytes, []byte{0}), api.Cmd{}, api.ErrForm)
			continue
		}
		checkBoth(t, api.Cmd{Kind: int(x.n)}, join(x.bytes, []byte{0, 0, 0}))
		checkBoth(t, api.Cmd{Loan: int(x.n)}, join([]byte{0, 0}, x.bytes, []byte{0}))
	}
}

// P6.1: as many numbers as may be, and more.
func TestHowManyNumbers(t *testing.T) {
	for many := range api.MaxNumbers + 1 {
		c := api.Cmd{Kind: 1, Key: 2, Loan: 3, N: slices.Repeat([]int64{-64}, many)}
		checkBoth(t, c, join([]byte{2, 4, 6, byte(2 * many)}, bytes.Repeat([]byte{0x7f}, many)))
	}
	for _, many := range []int{17, 18, 32, 64, 128, 256, 257, 1 << 16, 1<<16 + 1} {
		checkPut(t, api.Cmd{Kind: 1, Key: 2, Loan: 3, N: make([]int64, many)}, nil, api.ErrArg)
	}
}

// P6.1, P6.2: edges at all places together, and any commands, held against the model.
func TestAny(t *testing.T) {
	for _, n := range intEdges() {
		for _, m := range edges() {
			c := api.Cmd{Kind: n, Key: m, Loan: -1 - n, N: []int64{m, int64(n), -1 - m}}
			checkBoth(t, c, modelPut(c))
		}
	}
	r := rand.New(rand.NewPCG(6, 1))
	for range 20000 {
		c := anyCommand(r)
		checkBoth(t, c, modelPut(c))
	}
}

// P6.2: bytes that stop too early, go on behind the end, or tell of other numbers than there are.
func TestGetWrong(t *testing.T) {
	for _, b := range [][]byte{
		nil, {}, {0}, {0, 0}, {0, 0, 0}, {0x80}, {0x80, 0x80}, {0, 0, 0, 0x80}, {0, 0, 0, 2, 0x80}, {0, 0, 0, 4, 0, 0x80},
		{0, 0, 0, 0, 0}, {0, 0, 0, 0, 0x80}, {0, 0, 0, 2, 0, 0}, {0, 0, 0, 2, 0, 0x80},
		{0, 0, 0, 2}, {0, 0, 0, 4, 0}, {0, 0, 0, 6, 0, 0}, {4, 1, 0x80, 1, 2}, {4, 1, 0x80, 1, 4, 6}, {4, 1, 0x80, 1, 0, 6},
		{0, 0, 0, 1}, {0, 0, 0, 1, 0}, {0, 0, 0, 3}, {0, 0, 0, 31}, {0, 0, 0, 33}, {0, 0, 0, 34}, {0, 0, 0, 36},
	} {
		checkGet(t, b, api.Cmd{}, api.ErrForm)
	}
	for _, many := range append(edges(), 15, 17, 18, -16, -17, 1<<32, 1<<32+16, 1<<60) {
		b := join([]byte{0, 0, 0}, modelNumber(many), make([]byte, 16))
		checkGet(t, b, api.Cmd{}, api.ErrForm)
		checkGet(t, append(b, 0), api.Cmd{}, api.ErrForm)
	}
	checkGet(t, make([]byte, 1<<20), api.Cmd{}, api.ErrForm)
	checkGet(t, bytes.Repeat([]byte{0x80}, 1<<20), api.Cmd{}, api.ErrForm)
	checkGet(t, bytes.Repeat([]byte{0xff}, 1<<20), api.Cmd{}, api.ErrForm)
}

// P6.2: numbers in more bytes than need be, and such as 64 bits have no room for, at each place.
func TestGetWrongNumbers(t *testing.T) {
	nine := bytes.Repeat([]byte{0xff}, 9)
	zeros := bytes.Repeat([]byte{0x80}, 9)
	wrong := [][]byte{
		{0x80, 0}, {0x81, 0}, {0x82, 0}, {0xff, 0}, {0x80, 0x80, 0}, {0x80, 0x81, 0}, {0xff, 0xff, 0}, {0x80, 0x80, 0x80, 0x80, 0},
		append(slices.Clone(zeros[:8]), 0), append(slices.Clone(zeros), 0), append(slices.Clone(nine), 0),
		append(slices.Clone(zeros), 2), append(slices.Clone(zeros), 3), append(slices.Clone(nine), 2), append(slices.Clone(nine), 0x7f),
		append(slices.Clone(zeros), 0x80, 0), append(slices.Clone(zeros), 0x80, 1), append(slices.Clone(zeros), 0x81, 0),
		append(slices.Clone(nine), 0x81, 0), append(slices.Clone(nine), 0x81, 1), append(slices.Clone(nine), 0xff, 0x7f),
		join(nine, nine, []byte{1}), join(zeros, zeros, []byte{1}), join(zeros, zeros, zeros, zeros, zeros, zeros, zeros, zeros, []byte{1}),
	}
	for _, number := range wrong {
		for at := range 7 {
			l := [][]byte{{2}, {4}, {6}, {6}, {8}, {10}, {12}}
			checkGet(t, join(l...), api.Cmd{Kind: 1, Key: 2, Loan: 3, N: []int64{4, 5, 6}}, nil)
			l[at] = number
			checkGet(t, join(l...), api.Cmd{}, api.ErrForm)
		}
	}
	// Each of them that stands for 3 numbers in too many bytes, too.
	for _, number := range [][]byte{{0x86, 0}, {0x86, 0x80, 0}, append(append([]byte{0x86}, zeros...), 0)} {
		checkGet(t, join([]byte{2, 4, 6}, number, []byte{8, 10, 12}), api.Cmd{}, api.ErrForm)
	}
}

// P6.2, P6.4: all bytes that there are of a few values, held against the model; what is got is put as they are.
func TestAllOfFewValues(t *testing.T) {
	values := []byte{0, 1, 2, 4, 0x7f, 0x80, 0x81, 0xff}
	var all func(b []byte, more int)
	all = func(b []byte, more int) {
		checkOne(t, b)
		for _, v := range values {
			if more > 0 {
				all(append(b, v), more-1)
			}
		}
	}
	all(make([]byte, 0, 6), 6)
	// As number behind number: the bytes ahead of these are those of a command.
	for _, v := range values {
		all(append(make([]byte, 0, 16), 4, v, 0x80, 1, 2), 4)
		all(append(make([]byte, 0, 16), bytes.Repeat([]byte{v}, 8)...), 4)
	}
}

// checkOne holds what is got against the model, and puts it again.
func checkOne(t *testing.T, b []byte) {
	t.Helper()
	want, wanted := modelGet(b)
	checkGet(t, b, want, wanted)
	if c, err := pack.Get(b); err == nil {
		checkPut(t, c, b, nil)
	}
}

// P6.2, P6.4: commands' bytes, of which some were changed, left out or put in.
func TestChangedBytes(t *testing.T) {
	r := rand.New(rand.NewPCG(6, 2))
	for range 20000 {
		b := modelPut(anyCommand(r))
		for range 1 + r.IntN(3) {
			at := r.IntN(len(b))
			switch r.IntN(4) {
			case 0:
				b[at] ^= 1 << r.IntN(8)
			case 1:
				b[at] = byte(r.IntN(256))
			case 2:
				b = slices.Delete(b, at, at+1)
			default:
				b = slices.Insert(b, at, byte(r.IntN(256)))
			}
			checkOne(t, b)
			if len(b) == 0 {
				break
			}
		}
	}
}

// P6.3: neither the numbers nor the bytes are changed, not even in the room behind them.
func TestWhatIsHandedInStays(t *testing.T) {
	numbers := []int64{3, -4, greatest, least, 99, 98, 97}
	c := api.Cmd{Kind: 2, Key: -1, Loan: 64, N: numbers[:4]}
	b, err := pack.Put(c)
	if err != nil || !slices.Equal(numbers, []int64{3, -4, greatest, least, 99, 98, 97}) || len(c.N) != 4 {
		t.Errorf("Put left %v, %v", numbers, err)
	}
	room := append(slices.Clone(b), 9, 9, 9)
	for _, end := range []int{len(b), len(b) - 1, 3} {
		kept := slices.Clone(room)
		pack.Get(room[:end])
		if !bytes.Equal(room, kept) {
			t.Errorf("Get left % x of % x", room, kept)
		}
	}
	tooMany := []int64{1, 2, 3, 4, 5, 6, 7, 8, 9, 10, 11, 12, 13, 14, 15, 16, 17}
	kept := slices.Clone(tooMany)
	if _, err := pack.Put(api.Cmd{N: tooMany}); err != api.ErrArg || !slices.Equal(tooMany, kept) {
		t.Errorf("Put left %v, %v", tooMany, err)
	}
}

// P6.3: what is told is nobody else's: not the argument's, not that of another answer.
func TestAnswersAreNewMemory(t *testing.T) {
	c := api.Cmd{Kind: 2, Key: -1, Loan: 64, N: []int64{3, -4}}
	want := modelPut(c)
	b, err := pack.Put(c)
	other, _ := pack.Put(c)
	c.N[0] = 50
	if err != nil || !bytes.Equal(b, want) {
		t.Errorf("Put's bytes hang on the numbers: % x, %v", b, err)
	}
	_ = append(b, 7)
	for i := range b {
		b[i] = 0xee
	}
	if !bytes.Equal(other, want) {
		t.Errorf("Put's bytes hang on those of another call: % x", other)
	}
	again := slices.Clone(want)
	d, err := pack.Get(again)
	e, _ := pack.Get(again)
	for i := range again {
		again[i] = 0xee
	}
	d.N = append(d.N, 8)
	d.N[0] = 60
	if f := (api.Cmd{Kind: 2, Key: -1, Loan: 64, N: []int64{3, -4}}); err != nil || !same(e, f) {
		t.Errorf("Get's numbers hang on others: %v, %v", e, err)
	}
	checkGet(t, want, api.Cmd{Kind: 2, Key: -1, Loan: 64, N: []int64{3, -4}}, nil)
}

// P6.4: what was put is got as it was; no beginning of its bytes is a command's, and nothing
// that goes on behind them is.
func TestBeginnings(t *testing.T) {
	r := rand.New(rand.NewPCG(6, 4))
	for range 2000 {
		c := anyCommand(r)
		b, err := pack.Put(c)
		if err != nil {
			t.Fatal(c, err)
		}
		checkGet(t, b, c, nil)
		for end := range b {
			checkGet(t, b[:end], api.Cmd{}, api.ErrForm)
		}
		checkGet(t, append(slices.Clone(b), byte(r.IntN(256))), api.Cmd{}, api.ErrForm)
		checkGet(t, join(b, modelPut(anyCommand(r))), api.Cmd{}, api.ErrForm)
	}
}

// P6.4: other commands have other bytes.
func TestOtherBytes(t *testing.T) {
	seen := make(map[string]api.Cmd)
	for _, kind := range []int{-65, -64, -1, 0, 1, 63, 64} {
		for _, key := range []int64{least, -65, -64, -1, 0, 1, 63, 64, greatest} {
			for _, loan := range []int{-1, 0, 1, 64} {
				for _, n := range [][]int64{nil, {0}, {-1}, {1}, {64}, {0, 0}, {0, 1}, {1, 0}, {greatest}, {least}} {
					c := api.Cmd{Kind: kind, Key: key, Loan: loan, N: n}
					b, err := pack.Put(c)
					if d, ok := seen[string(b)]; ok || err != nil {
						t.Errorf("% x, %v: of %v and of %v", b, err, c, d)
					}
					seen[string(b)] = c
				}
			}
		}
	}
}

// Errors are found by errors.Is, as all of the program's are.
func TestErrorsAreFound(t *testing.T) {
	_, put := pack.Put(api.Cmd{N: make([]int64, api.MaxNumbers+1)})
	_, get := pack.Get(nil)
	if !errors.Is(put, api.ErrArg) || !errors.Is(get, api.ErrForm) {
		t.Errorf("got %v, %v", put, get)
	}
}
