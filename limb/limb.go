// Package limb is layer 1: see shared/doc/01-limb.md.
package limb

import "math/bits"

// wordBits is how many bits a word has.
const wordBits = 32

// Add adds three words.
func Add(a, b, c uint32) (sum, carry uint32) {
	carry, sum = halves(total(uint64(a), uint64(b), uint64(c)))
	return sum, carry
}

// Sub takes two words from one.
func Sub(a, b, c uint32) (diff, borrow uint32) {
	// Below 0 the 64 bits wrap round: the upper word is then 2^32 less the borrow.
	above, diff := halves(uint64(a) - total(uint64(b), uint64(c)))
	return diff, -above
}

// Mul multiplies two words, and adds two.
func Mul(a, b, c, d uint32) (hi, lo uint32) {
	// No sum is lost: (2^32 - 1)^2 and twice 2^32 - 1 are 2^64 - 1.
	return halves(total(uint64(a)*uint64(b), uint64(c), uint64(d)))
}

// Div divides two words by one.
func Div(hi, lo, d uint32) (q, r uint32, ok bool) {
	// Also keeps d from being 0; beyond it the quotient has more than one word.
	if hi >= d {
		return 0, 0, false
	}
	n := total(uint64(hi)<<wordBits, uint64(lo))
	return uint32(n / uint64(d)), uint32(n % uint64(d)), true
}

// Bits is how many a word has.
func Bits(a uint32) int { return bits.Len32(a) }

// Low is how many words there are, without 0s at the end.
func Low(l []uint32) int {
	n := len(l)
	for n > 0 && l[n-1] == 0 {
		n--
	}
	return n
}

// total adds numbers of 64 bits; who calls it sees to it that the sum has no more.
func total(terms ...uint64) uint64 {
	var sum uint64
	for _, t := range terms {
		sum += t
	}
	return sum
}

// halves cuts a number of 64 bits into two words.
func halves(n uint64) (hi, lo uint32) { return uint32(n >> wordBits), uint32(n) }
