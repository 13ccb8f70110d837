package fixed

import (
	"math/bits"

	"plenum/api"
)

// pair is a number of 128 bits in two's complement, as two words.
type pair struct {
	high, low uint64
}

// product returns the exact product of two numbers.
func product(a, b int64) pair {
	high, low := bits.Mul64(uint64(a), uint64(b))
	// A negative factor was taken for one that is 2^64 greater.
	if a < 0 {
		high -= uint64(b)
	}
	if b < 0 {
		high -= uint64(a)
	}
	return pair{high, low}
}

func (p pair) plus(q pair) pair {
	low, carry := bits.Add64(p.low, q.low, 0)
	high, _ := bits.Add64(p.high, q.high, carry)
	return pair{high, low}
}

func (p pair) negative() bool { return p.high>>63 == 1 }

// size returns p without its sign.
func (p pair) size() pair {
	if !p.negative() {
		return p
	}
	return pair{^p.high, ^p.low}.plus(pair{0, 1})
}

// quotient returns p / divisor, rounded half away from zero and clamped. With the divisor 0 it is the limit on the side of p.
func (p pair) quotient(divisor int64) int64 {
	if p == (pair{}) {
		return 0
	}
	by := uint64(max(divisor, -divisor))
	n := p.size().divided(by)
	if p.negative() != (divisor < 0) {
		return -n
	}
	return n
}

// divided returns the quotient of two numbers without signs, rounded half up, at most MaxAnalog.
func (p pair) divided(by uint64) int64 {
	if p.high >= by { // a quotient of more than 64 bits, or a division by 0
		return api.MaxAnalog
	}
	whole, rest := bits.Div64(p.high, p.low, by)
	if whole >= api.MaxAnalog { // rounding it up might wrap around
		return api.MaxAnalog
	}
	if rest >= by-rest {
		whole++
	}
	return int64(whole)
}
