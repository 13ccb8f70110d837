package wide_test

import (
	"math"
	"math/big"
	"testing"

	"plenum/wide"
)

var words = []int64{0, 1, 2, 3, 7, 10, 999, 1 << 31, 1<<32 - 1, 1 << 32, 1000000000000, 1<<62 + 12345, math.MaxInt64 - 1, math.MaxInt64, -1, -2, -3, -7, -1000, -1 << 32, -1000000000001, math.MinInt64 + 1, math.MinInt64}

// number is a wide number with what it stands for.
type number struct {
	n    wide.Int
	want *big.Int
}

// wrapped returns n modulo 2^128, from -2^127 on.
func wrapped(n *big.Int) *big.Int {
	half, whole := new(big.Int).Lsh(big.NewInt(1), 127), new(big.Int).Lsh(big.NewInt(1), 128)
	n = new(big.Int).Add(n, half)
	return n.Sub(n.Mod(n, whole), half)
}

// numbers are words, their products, and what these give with one more word.
func numbers() []number {
	var list []number
	for _, a := range words {
		list = append(list, number{wide.Of(a), big.NewInt(a)})
		for _, b := range words {
			product := number{wide.Of(a).Times(b), new(big.Int).Mul(big.NewInt(a), big.NewInt(b))}
			for _, c := range []int64{0, 1, -1, 1 << 40, math.MinInt64} {
				list = append(list, number{product.n.Plus(wide.Of(c)), new(big.Int).Add(product.want, big.NewInt(c))})
			}
		}
	}
	return list
}

// valueOf reads a number by means of its words.
func valueOf(n wide.Int) *big.Int {
	whole, rest := n.Divided(1 << 62)
	top, middle := whole.Divided(1 << 62)
	word, _ := top.Int64()
	sum := new(big.Int).Lsh(big.NewInt(word), 62)
	sum.Add(sum, big.NewInt(middle))
	return sum.Add(sum.Lsh(sum, 62), big.NewInt(rest))
}

func TestSumsAndProducts(t *testing.T) {
	for _, x := range numbers() {
		if valueOf(x.n).Cmp(x.want) != 0 {
			t.Fatalf("%d, not %d", valueOf(x.n), x.want)
		}
		if x.n.Negative() != (x.want.Sign() < 0) {
			t.Errorf("the sign of %d", x.want)
		}
		if negated := new(big.Int).Neg(x.want); valueOf(x.n.Negated()).Cmp(wrapped(negated)) != 0 {
			t.Errorf("%d negated: %d", x.want, valueOf(x.n.Negated()))
		}
		for _, b := range words {
			product := wrapped(new(big.Int).Mul(x.want, big.NewInt(b)))
			if got := valueOf(x.n.Times(b)); got.Cmp(product) != 0 {
				t.Errorf("%d * %d: %d", x.want, b, got)
			}
		}
	}
	if (wide.Int{}) != wide.Of(0) {
		t.Error("the zero Int")
	}
}

func TestDivided(t *testing.T) {
	for _, x := range numbers() {
		for _, by := range words {
			if by < 1 {
				continue
			}
			whole, rest := x.n.Divided(by)
			mod := new(big.Int)
			want, _ := new(big.Int).DivMod(x.want, big.NewInt(by), mod)
			if valueOf(whole).Cmp(want) != 0 || rest != mod.Int64() {
				t.Errorf("%d / %d: %d and %d", x.want, by, valueOf(whole), rest)
			}
		}
	}
}

func TestInt64(t *testing.T) {
	for _, x := range numbers() {
		want := int64(0)
		if x.want.IsInt64() {
			want = x.want.Int64()
		}
		if got, fits := x.n.Int64(); got != want || fits != x.want.IsInt64() {
			t.Errorf("Int64 of %d: %d, %t", x.want, got, fits)
		}
	}
}
