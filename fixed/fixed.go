// Package fixed is layer 1: fixed-point arithmetic in thousandths that saturates. See shared/doc/01-fixed.md.
package fixed

import (
	"strconv"
	"strings"

	"plenum/api"
)

// one is the number 1 in thousandths.
const one = 1000

// Clamp returns n, at least -MaxAnalog and at most MaxAnalog.
func Clamp(n int64) int64 { return min(max(n, -api.MaxAnalog), api.MaxAnalog) }

// Add returns a + b.
func Add(a, b int64) int64 { return Clamp(total(a, b)) }

// Sub returns a - b.
func Sub(a, b int64) int64 { return Clamp(total(a, -Clamp(b))) }

// Mul returns the product of two numbers in thousandths.
func Mul(a, b int64) int64 { return MulDiv(a, b, one) }

// Div returns the quotient of two numbers in thousandths.
func Div(a, b int64) int64 { return MulDiv(a, one, b) }

// MulDiv returns a * b / c of plain integers.
func MulDiv(a, b, c int64) int64 { return product(Clamp(a), Clamp(b)).quotient(Clamp(c)) }

// Sum returns the sum of a list.
func Sum(list []int64) int64 { return Clamp(total(list...)) }

// Mean returns the mean of a list, or 0 of an empty one.
func Mean(list []int64) int64 {
	// The total of an empty list is 0, and so is its quotient with the divisor 0.
	return product(total(list...), 1).quotient(int64(len(list)))
}

// total returns the sum of the clamped numbers. It is exact: 2^20 clamped numbers need no more than 61 bits.
func total(numbers ...int64) int64 {
	sum := int64(0)
	for _, n := range numbers {
		sum += Clamp(n)
	}
	return sum
}

// Line returns the value at x on the straight line through two points, constant outside of them.
func Line(x, x1, y1, x2, y2 int64) int64 {
	x, x1, y1, x2, y2 = Clamp(x), Clamp(x1), Clamp(y1), Clamp(x2), Clamp(y2)
	if x1 >= x2 {
		if x < x1 {
			return y1
		}
		return y2
	}
	x = min(max(x, x1), x2)
	// The two heights are weighted with the distances, because the whole sum may be rounded only once.
	weighted := product(y1, x2-x).plus(product(y2, x-x1))
	return weighted.quotient(x2 - x1)
}

// Round returns n, rounded to so many digits behind the point.
func Round(n int64, digits int) (int64, api.Errno) {
	if digits < 0 || digits > 3 {
		return 0, api.ErrInvalid
	}
	step := int64(one)
	for range digits {
		step /= 10
	}
	// The limits are multiples of every step, so the result is in range.
	return MulDiv(n, 1, step) * step, api.OK
}

// Text returns a number as a decimal number.
func Text(n int64) string {
	n = Clamp(n)
	sign := ""
	if n < 0 {
		sign, n = "-", -n
	}
	text := sign + strconv.FormatInt(n/one, 10)
	if n%one == 0 {
		return text
	}
	// The 1 in front keeps the zeros that follow the point, and is cut off.
	fraction := strconv.FormatInt(one+n%one, 10)[1:]
	return text + "." + strings.TrimRight(fraction, "0")
}

// Parse returns the number of a decimal number.
func Parse(s string) (int64, api.Errno) {
	digits, negative := strings.CutPrefix(s, "-")
	whole, fraction, pointed := strings.Cut(digits, ".")
	if !isDigits(whole) || pointed && (!isDigits(fraction) || len(fraction) > 3) {
		return 0, api.ErrSyntax
	}
	n := readDigits(readDigits(0, whole), (fraction + "000")[:3])
	if n > api.MaxAnalog {
		return 0, api.ErrRange
	}
	if negative {
		n = -n
	}
	return n, api.OK
}

// isDigits reports whether s consists of one or more decimal digits.
func isDigits(s string) bool {
	return s != "" && strings.Trim(s, "0123456789") == ""
}

// readDigits returns the number n, continued by the decimal digits. What is greater than MaxAnalog becomes MaxAnalog + 1, so that nothing wraps around.
func readDigits(n int64, digits string) int64 {
	for i := range len(digits) {
		n = min(n*10+int64(digits[i]-'0'), api.MaxAnalog+1)
	}
	return n
}
