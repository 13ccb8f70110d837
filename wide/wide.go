// Package wide has integers of 128 bits. The layers compute with them what needs more than a word before it is rounded. (Layer 1 has pairs of its own, because it imports package api alone.)
package wide

import "math/bits"

// Int is an integer of 128 bits in two's complement. What does not fit wraps around. The zero Int is 0.
type Int struct {
	high, low uint64
}

// Of returns the number n.
func Of(n int64) Int { return Int{uint64(n >> 63), uint64(n)} }

// Plus returns n + m.
func (n Int) Plus(m Int) Int {
	low, carry := bits.Add64(n.low, m.low, 0)
	high, _ := bits.Add64(n.high, m.high, carry)
	return Int{high, low}
}

// Times returns n * by.
func (n Int) Times(by int64) Int {
	high, low := bits.Mul64(n.low, uint64(by))
	high += n.high * uint64(by)
	if by < 0 { // it was taken for a number that is 2^64 greater
		high -= n.low
	}
	return Int{high, low}
}

// Negative reports whether n is less than 0.
func (n Int) Negative() bool { return n.high>>63 == 1 }

// Negated returns -n.
func (n Int) Negated() Int { return n.complement().Plus(Of(1)) }

// Divided returns n / by, rounded down, and the rest, which is not negative. The divisor is at least 1.
func (n Int) Divided(by int64) (Int, int64) {
	if n.Negative() {
		// The complement of n is -1 - n: its quotients are those of n mirrored, and its rests run backwards.
		whole, rest := n.complement().Divided(by)
		return whole.complement(), by - 1 - rest
	}
	divisor := uint64(by)
	low, rest := bits.Div64(n.high%divisor, n.low, divisor)
	return Int{n.high / divisor, low}, int64(rest)
}

// Int64 returns n as a word, or 0 and false if it does not fit.
func (n Int) Int64() (int64, bool) {
	word := int64(n.low)
	if Of(word) != n {
		return 0, false
	}
	return word, true
}

func (n Int) complement() Int { return Int{^n.high, ^n.low} }
