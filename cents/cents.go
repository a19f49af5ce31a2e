// Package cents is layer 1: money that doesn't go round (see shared/doc/01-cents.md).
package cents

import (
	"math/bits"

	"trivet/api"
)

// Add is the sum of both: P1.1.
func Add(a, b int64) (int64, error) { return Sum(a, b) }

// Sub is the difference of both: P1.1.
func Sub(a, b int64) (int64, error) {
	d := a - b
	// It went round just where the signs differ, and the difference hasn't that of a.
	if (a^b)&(a^d) < 0 {
		return 0, api.ErrOver
	}
	return d, nil
}

// Mul is the product of both: P1.1.
func Mul(a, b int64) (int64, error) { return MulDiv(a, b, 1, api.RoundDown) }

// Sum is the sum of all of them: P1.1.
func Sum(l ...int64) (int64, error) {
	// Reckoned in 128 bits, so that no sum of parts goes round.
	var high, low uint64
	for _, n := range l {
		var carry uint64
		low, carry = bits.Add64(low, uint64(n), 0)
		high, _ = bits.Add64(high, uint64(n>>63), carry)
	}
	s := int64(low)
	if high != uint64(s>>63) {
		return 0, api.ErrOver
	}
	return s, nil
}

// MulDiv is a times b by c, exactly, and then rounded: P1.2.
func MulDiv(a, b, c int64, mode int) (int64, error) {
	if c == 0 || !isMode(mode) {
		return 0, api.ErrArg
	}
	below := (a < 0) != (b < 0) != (c < 0)
	divisor := size(c)
	high, low := bits.Mul64(size(a), size(b))
	if high >= divisor {
		return 0, api.ErrOver // the quotient alone is 2^64 or more
	}
	quotient, rest := bits.Div64(high, low, divisor)
	if quotient > 1<<63 {
		return 0, api.ErrOver // ahead of rounding, where one more could go round to 0
	}
	if further(quotient, rest, divisor, below, mode) {
		quotient++
	}
	return signed(quotient, below)
}

// isMode tells whether mode is one of the four ways of rounding.
func isMode(mode int) bool { return mode >= api.RoundDown && mode <= api.RoundEven }

// size is n without its sign. That of -2^63 has room, for it has no sign.
func size(n int64) uint64 {
	if n < 0 {
		return -uint64(n)
	}
	return uint64(n)
}

// further tells whether a quotient without its sign is rounded to the next number away from 0.
func further(quotient, rest, divisor uint64, below bool, mode int) bool {
	if rest == 0 {
		return false
	}
	// The rest is held against what is missing, as twice the rest may have no room.
	missing := divisor - rest
	switch mode {
	case api.RoundDown:
		return below
	case api.RoundUp:
		return !below
	case api.RoundNear:
		return rest >= missing
	default:
		return rest > missing || rest == missing && quotient%2 == 1
	}
}

// signed gives a size its sign back.
func signed(n uint64, below bool) (int64, error) {
	if below && n <= 1<<63 {
		return int64(-n), nil
	}
	if !below && n < 1<<63 {
		return int64(n), nil
	}
	return 0, api.ErrOver
}
