// Package wide multiplies, compares and divides products of two 64-bit integers exactly: see doc/01-wide.md.
package wide

import (
	"cmp"
	"math/bits"
)

// Mul returns the 128-bit two's complement product of a and b, as hi * 2^64 + lo.
func Mul(a, b int) (hi int, lo uint64) {
	high, low := multiply(magnitude(a), magnitude(b))
	if (a < 0) != (b < 0) {
		high, low = negate(high, low)
	}
	return int(high), low
}

// Cmp returns -1, 0 or 1 if a * b is less than, equal to or greater than c * d.
func Cmp(a, b, c, d int) int {
	leftHigh, leftLow := Mul(a, b)
	rightHigh, rightLow := Mul(c, d)
	if leftHigh != rightHigh {
		return cmp.Compare(leftHigh, rightHigh)
	}
	return cmp.Compare(leftLow, rightLow)
}

// MulDiv returns a * b / d, rounded to the nearest integer with ties to even.
// It returns false if d is 0 or the result does not fit an int.
func MulDiv(a, b, d int) (q int, ok bool) {
	r, ok := divide(a, b, d)
	if !ok {
		return 0, false
	}
	// Cannot overflow: the rest is less than the divisor, which is at most 2^63.
	twice := 2 * r.rest
	if twice > r.divisor || twice == r.divisor && r.whole%2 == 1 {
		r.whole++
	}
	return r.signed()
}

// Floor returns the greatest integer that is not greater than a * b / d.
// It returns false if d is 0 or the result does not fit an int.
func Floor(a, b, d int) (q int, ok bool) {
	r, ok := divide(a, b, d)
	if !ok {
		return 0, false
	}
	if r.negative && r.rest > 0 {
		r.whole++
	}
	return r.signed()
}

// ratio is a quotient by magnitudes: whole + rest / divisor, below 0 if negative.
type ratio struct {
	whole, rest, divisor uint64
	negative             bool
}

// largest is the magnitude of the least int, the greatest that any int has.
const largest = 1 << 63

// divide returns a * b / d. It returns false if d is 0 or if no rounding makes the ratio fit an int,
// so that the whole part of a ratio it returns can be raised by 1 without overflow.
func divide(a, b, d int) (ratio, bool) {
	high, low := multiply(magnitude(a), magnitude(b))
	divisor := magnitude(d)
	// A divisor of 0 ends here too: bits.Div64 would panic on it.
	if high >= divisor {
		return ratio{}, false
	}
	whole, rest := bits.Div64(high, low, divisor)
	if whole > largest {
		return ratio{}, false
	}
	return ratio{whole, rest, divisor, ((a < 0) != (b < 0)) != (d < 0)}, true
}

// signed returns the whole part with the ratio's sign, and false if it does not fit an int.
func (r ratio) signed() (int, bool) {
	if r.negative && r.whole <= largest {
		return int(-r.whole), true
	}
	if !r.negative && r.whole < largest {
		return int(r.whole), true
	}
	return 0, false
}

// magnitude returns the absolute value; that of the least int is 2^63, which only the unsigned type holds.
func magnitude(a int) uint64 {
	if a < 0 {
		return -uint64(a)
	}
	return uint64(a)
}

// multiply returns the 128-bit product of two unsigned integers.
func multiply(x, y uint64) (high, low uint64) {
	const half, mask = 32, 1<<32 - 1
	xs := [2]uint64{x & mask, x >> half}
	ys := [2]uint64{y & mask, y >> half}
	// part[i][j] weighs 2^(32 (i + j)); no product of two halves overflows.
	var part [2][2]uint64
	for i := range xs {
		for j := range ys {
			part[i][j] = xs[i] * ys[j]
		}
	}
	middle := part[0][0]>>half + part[0][1]&mask + part[1][0]&mask
	low = middle<<half | part[0][0]&mask
	high = part[1][1] + part[0][1]>>half + part[1][0]>>half + middle>>half
	return high, low
}

// negate returns the 128-bit two's complement of a number.
func negate(high, low uint64) (uint64, uint64) {
	low, borrow := bits.Sub64(0, low, 0)
	high, _ = bits.Sub64(0, high, borrow)
	return high, low
}
