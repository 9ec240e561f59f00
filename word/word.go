// Package word reckons with numbers of 64 bits, and of 128: layer 1.
package word

import "math/bits"

// Add is x + y + carry (its lowest bit), and what goes over: 0 or 1.
func Add(x, y, carry uint64) (uint64, uint64) {
	// bits.Add64 leaves open what any carry but 0 and 1 does.
	return bits.Add64(x, y, carry&1)
}

// Sub is x - y - borrow (its lowest bit), and what is lacking: 0 or 1.
func Sub(x, y, borrow uint64) (uint64, uint64) {
	// bits.Sub64 leaves open what any borrow but 0 and 1 does.
	return bits.Sub64(x, y, borrow&1)
}

// Mul is x times y: the high word, the low word.
func Mul(x, y uint64) (uint64, uint64) {
	return bits.Mul64(x, y)
}

// MulAdd is x times y, plus a, plus b: the high word, the low word.
func MulAdd(x, y, a, b uint64) (uint64, uint64) {
	// The high word can't run over: the greatest sum, with B for 2 to the 64,
	// is (B-1)*(B-1) + 2*(B-1), which is B*B - 1.
	high, low := bits.Mul64(x, y)
	low, over := bits.Add64(low, a, 0)
	high += over
	low, over = bits.Add64(low, b, 0)
	return high + over, low
}

// Div is hi:lo by y, and what is left; false, if that is no word.
func Div(hi, lo, y uint64) (uint64, uint64, bool) {
	// bits.Div64 panics just here; y = 0 is among these, as no hi is below it.
	if y <= hi {
		return 0, 0, false
	}
	quotient, rest := bits.Div64(hi, lo, y)
	return quotient, rest, true
}

// Len is how many bits a number has.
func Len(x uint64) int {
	return bits.Len64(x)
}

// Lead is how many bits above its highest 1 are 0.
func Lead(x uint64) int {
	return bits.LeadingZeros64(x)
}

// Trail is how many bits below its lowest 1 are 0.
func Trail(x uint64) int {
	return bits.TrailingZeros64(x)
}
