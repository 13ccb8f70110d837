package fixed_test

import (
	"math"
	"math/big"
	"math/rand"
	"slices"
	"strings"
	"testing"

	"plenum/api"
	"plenum/fixed"
)

const limit = api.MaxAnalog

// numbers are ordinary numbers, and those at which something changes.
func numbers() []int64 {
	list := []int64{0, 1, 2, 3, 7, 9, 49, 50, 51, 499, 500, 501, 999, 1000, 1001, 1500, 2000, 123456, 20000000, 999999999, limit / 2, limit - 1, limit, limit + 1, 2 * limit, 18446744073709, math.MaxInt64 - 1, math.MaxInt64}
	for _, n := range list[1:] {
		list = append(list, -n)
	}
	return append(list, math.MinInt64)
}

// clamped is the definition of Clamp in other words.
func clamped(n int64) int64 {
	if n < -limit {
		return -limit
	}
	if n > limit {
		return limit
	}
	return n
}

// rounded is the exact quotient a / b, rounded half away from zero and clamped.
func rounded(a, b *big.Int) int64 {
	if b.Sign() == 0 {
		return int64(a.Sign()) * limit
	}
	// |a / b| + 1/2, without its fraction, has the size that is asked for.
	size := new(big.Int).Abs(a)
	size.Mul(size, big.NewInt(2))
	size.Add(size, new(big.Int).Abs(b))
	size.Quo(size, new(big.Int).Mul(big.NewInt(2), new(big.Int).Abs(b)))
	if size.Cmp(big.NewInt(limit)) > 0 {
		size.SetInt64(limit)
	}
	return int64(a.Sign()*b.Sign()) * size.Int64()
}

func product(a, b int64) *big.Int {
	return new(big.Int).Mul(big.NewInt(clamped(a)), big.NewInt(clamped(b)))
}

type result struct {
	name      string
	got, want int64
}

func check(t *testing.T, results ...result) {
	t.Helper()
	for _, r := range results {
		if r.got != r.want {
			t.Errorf("%s: %d, not %d", r.name, r.got, r.want)
		}
	}
}

func TestP1_1Clamp(t *testing.T) {
	check(t,
		result{"zero", fixed.Clamp(0), 0},
		result{"in range", fixed.Clamp(-2500), -2500},
		result{"the greatest", fixed.Clamp(limit), limit},
		result{"the least", fixed.Clamp(-limit), -limit},
		result{"too great", fixed.Clamp(limit + 1), limit},
		result{"too little", fixed.Clamp(-limit - 1), -limit},
		result{"the greatest word", fixed.Clamp(math.MaxInt64), limit},
		result{"the least word", fixed.Clamp(math.MinInt64), -limit},
	)
}

func TestP1_1Examples(t *testing.T) {
	check(t,
		result{"1.5 + 2.25", fixed.Add(1500, 2250), 3750},
		result{"a sum at the limit", fixed.Add(limit, 1), limit},
		result{"a sum of clamped numbers", fixed.Add(math.MaxInt64, -limit), 0},
		result{"a sum of the least words", fixed.Add(math.MinInt64, math.MinInt64), -limit},
		result{"1.5 - 2.25", fixed.Sub(1500, 2250), -750},
		result{"a difference at the limit", fixed.Sub(-limit, 1), -limit},
		result{"the least word subtracted", fixed.Sub(0, math.MinInt64), limit},
		result{"1.5 * 1.5", fixed.Mul(1500, 1500), 2250},
		result{"half up", fixed.Mul(1, 500), 1},
		result{"half down", fixed.Mul(-1, 500), -1},
		result{"less than half", fixed.Mul(1, 499), 0},
		result{"a great product", fixed.Mul(limit, 2000), limit},
		result{"the greatest product", fixed.Mul(limit, limit), limit},
		result{"the least product", fixed.Mul(limit, -limit), -limit},
		result{"1 / 3", fixed.Div(1000, 3000), 333},
		result{"2 / 3", fixed.Div(2000, 3000), 667},
		result{"-2 / 3", fixed.Div(-2000, 3000), -667},
		result{"2 / -3", fixed.Div(2000, -3000), -667},
		result{"0.005 / 0", fixed.Div(5, 0), limit},
		result{"-0.005 / 0", fixed.Div(-5, 0), -limit},
		result{"0 / 0", fixed.Div(0, 0), 0},
		result{"a great quotient", fixed.Div(limit, 1), limit},
		result{"7 * 9 / 2", fixed.MulDiv(7, 9, 2), 32},
		result{"-7 * 9 / 2", fixed.MulDiv(-7, 9, 2), -32},
		result{"7 * 9 / -2", fixed.MulDiv(7, 9, -2), -32},
		result{"an exact product", fixed.MulDiv(limit, limit-1, limit), limit - 1},
		result{"the limits", fixed.MulDiv(limit, limit, limit), limit},
		result{"7 * -9 / 0", fixed.MulDiv(7, -9, 0), -limit},
		result{"-7 * -9 / 0", fixed.MulDiv(-7, -9, 0), limit},
		result{"0 * 9 / 0", fixed.MulDiv(0, 9, 0), 0},
	)
}

// The product is 9 * 2^64 - 1, so that its quotient needs more than a word only after it is rounded.
func TestP1_1QuotientAtTheEndOfAWord(t *testing.T) {
	const a, b = 3<<32 - 1, 3<<32 + 1
	check(t,
		result{"positive", fixed.MulDiv(a, b, 9), limit},
		result{"negative", fixed.MulDiv(-a, b, 9), -limit},
	)
}

func TestP1_1IsExact(t *testing.T) {
	for _, a := range numbers() {
		for _, b := range numbers() {
			sum := new(big.Int).Add(big.NewInt(clamped(a)), big.NewInt(clamped(b)))
			difference := new(big.Int).Sub(big.NewInt(clamped(a)), big.NewInt(clamped(b)))
			one, thousand := big.NewInt(1), big.NewInt(1000)
			check(t,
				result{"Add", fixed.Add(a, b), rounded(sum, one)},
				result{"Sub", fixed.Sub(a, b), rounded(difference, one)},
				result{"Mul", fixed.Mul(a, b), rounded(product(a, b), thousand)},
				result{"Div", fixed.Div(a, b), rounded(product(a, 1000), big.NewInt(clamped(b)))},
			)
			for _, c := range numbers() {
				check(t, result{"MulDiv", fixed.MulDiv(a, b, c), rounded(product(a, b), big.NewInt(clamped(c)))})
			}
			if t.Failed() {
				t.Fatalf("with %d and %d", a, b)
			}
		}
	}
}

func TestP1_2Examples(t *testing.T) {
	check(t,
		result{"no sum", fixed.Sum(nil), 0},
		result{"a sum", fixed.Sum([]int64{1, -20, 300}), 281},
		result{"a partial sum that is out of range", fixed.Sum([]int64{limit, limit, -limit}), limit},
		result{"one that returns", fixed.Sum([]int64{limit, limit, -limit, -limit, 5}), 5},
		result{"a sum that is out of range", fixed.Sum([]int64{-limit, -1}), -limit},
		result{"clamped elements", fixed.Sum([]int64{math.MaxInt64, math.MaxInt64, -limit, -limit}), 0},
		result{"no mean", fixed.Mean(nil), 0},
		result{"an empty mean", fixed.Mean([]int64{}), 0},
		result{"a mean of one", fixed.Mean([]int64{-7}), -7},
		result{"half up", fixed.Mean([]int64{1, 2}), 2},
		result{"half down", fixed.Mean([]int64{-1, -2}), -2},
		result{"less than half", fixed.Mean([]int64{0, 0, 1}), 0},
		result{"more than half", fixed.Mean([]int64{0, 1, 1}), 1},
		result{"a mean of the limit", fixed.Mean([]int64{limit, limit}), limit},
		result{"a mean of clamped elements", fixed.Mean([]int64{math.MinInt64, math.MinInt64, limit}), -333333333333},
	)
}

func TestP1_2IsExact(t *testing.T) {
	random := rand.New(rand.NewSource(1))
	pool := numbers()
	for range 2000 {
		list := make([]int64, random.Intn(9))
		sum := new(big.Int)
		for i := range list {
			list[i] = pool[random.Intn(len(pool))]
			sum.Add(sum, big.NewInt(clamped(list[i])))
		}
		before := slices.Clone(list)
		check(t,
			result{"Sum", fixed.Sum(list), rounded(sum, big.NewInt(1))},
			result{"Mean", fixed.Mean(list), rounded(sum, big.NewInt(int64(len(list))))},
		)
		if !slices.Equal(list, before) {
			t.Errorf("the list %d was modified", before)
		}
	}
}

func TestP1_2LongLists(t *testing.T) {
	for _, n := range []int64{limit, -limit, math.MaxInt64, math.MinInt64} {
		list := slices.Repeat([]int64{n}, 1<<20)
		check(t,
			result{"Sum", fixed.Sum(list), clamped(n)},
			result{"Mean", fixed.Mean(list), clamped(n)},
		)
		list[0] = -n
		sum := new(big.Int).Mul(big.NewInt(clamped(n)), big.NewInt(1<<20-1))
		sum.Add(sum, big.NewInt(clamped(-n)))
		check(t, result{"Mean of another", fixed.Mean(list), rounded(sum, big.NewInt(1<<20))})
		longer := append(list, list...)
		if got := fixed.Sum(longer); got != clamped(got) {
			t.Errorf("the sum of a list that is too long is not in range: %d", got)
		}
		if got := fixed.Mean(longer); got != clamped(got) {
			t.Errorf("the mean of a list that is too long is not in range: %d", got)
		}
	}
}

func TestP1_3Examples(t *testing.T) {
	check(t,
		result{"between", fixed.Line(5000, 0, 20000, 10000, 10000), 15000},
		result{"below", fixed.Line(-5, 0, 20000, 10000, 10000), 20000},
		result{"at the first", fixed.Line(0, 0, 20000, 10000, 10000), 20000},
		result{"at the second", fixed.Line(10000, 0, 20000, 10000, 10000), 10000},
		result{"above", fixed.Line(10001, 0, 20000, 10000, 10000), 10000},
		result{"half up", fixed.Line(1, 0, 0, 2, 1), 1},
		result{"half down", fixed.Line(1, 0, 0, 2, -1), -1},
		result{"rounded once, below 0", fixed.Line(1, 0, -1, 2, 0), -1},
		result{"rounded once, above 0", fixed.Line(1, 0, 1, 2, 0), 1},
		result{"rounded to 0", fixed.Line(1, 0, -1, 3, 1), 0},
		result{"between the limits", fixed.Line(0, -limit, -limit, limit, limit), 0},
		result{"near a limit", fixed.Line(limit-1, -limit, limit, limit, -limit), -limit + 1},
		result{"one x, below", fixed.Line(4, 5, 1, 5, 2), 1},
		result{"one x, at it", fixed.Line(5, 5, 1, 5, 2), 2},
		result{"one x, above", fixed.Line(6, 5, 1, 5, 2), 2},
		result{"falling x, below", fixed.Line(3, 8, 1, 5, 2), 1},
		result{"falling x, between", fixed.Line(7, 8, 1, 5, 2), 1},
		result{"falling x, at the first", fixed.Line(8, 8, 1, 5, 2), 2},
		result{"one x after clamping", fixed.Line(limit, limit, 1, math.MaxInt64, 2), 2},
		result{"clamped x", fixed.Line(math.MinInt64, -limit, 1, limit, 2), 1},
		result{"clamped y", fixed.Line(1, 0, math.MinInt64, 2, math.MaxInt64), 0},
	)
}

// line is the definition of Line, with exact intermediate results.
func line(x, x1, y1, x2, y2 int64) int64 {
	x, x1, y1, x2, y2 = clamped(x), clamped(x1), clamped(y1), clamped(x2), clamped(y2)
	if x1 < x2 && x > x1 && x < x2 {
		over := new(big.Int).Mul(big.NewInt(x-x1), big.NewInt(y2-y1))
		base := new(big.Int).Mul(big.NewInt(y1), big.NewInt(x2-x1))
		return rounded(base.Add(base, over), big.NewInt(x2-x1))
	}
	if x < x1 || x1 < x2 && x == x1 {
		return y1
	}
	return y2
}

func TestP1_3IsExact(t *testing.T) {
	random := rand.New(rand.NewSource(2))
	pool := numbers()
	for range 200000 {
		var n [5]int64
		for i := range n {
			n[i] = pool[random.Intn(len(pool))]
			if random.Intn(2) == 0 {
				n[i] = random.Int63n(41) - 20
			}
		}
		got, want := fixed.Line(n[0], n[1], n[2], n[3], n[4]), line(n[0], n[1], n[2], n[3], n[4])
		if got != want {
			t.Fatalf("Line%d: %d, not %d", n, got, want)
		}
	}
}

func TestP1_4(t *testing.T) {
	for _, r := range []struct {
		n      int64
		digits int
		want   int64
	}{
		{1250, 0, 1000}, {1250, 1, 1300}, {1250, 2, 1250}, {1250, 3, 1250},
		{-1250, 0, -1000}, {-1250, 1, -1300}, {-1250, 2, -1250},
		{1249, 1, 1200}, {1251, 1, 1300}, {1255, 2, 1260}, {-1255, 2, -1260},
		{499, 0, 0}, {500, 0, 1000}, {-499, 0, 0}, {-500, 0, -1000}, {1499, 0, 1000}, {1500, 0, 2000},
		{49, 1, 0}, {50, 1, 100}, {4, 2, 0}, {5, 2, 10}, {1, 3, 1},
		{limit - 1, 0, limit}, {1 - limit, 1, -limit}, {limit - 1, 3, limit - 1},
		{math.MaxInt64, 0, limit}, {math.MinInt64, 3, -limit}, {limit + 1, 2, limit},
	} {
		if got, e := fixed.Round(r.n, r.digits); got != r.want || e != api.OK {
			t.Errorf("%d to %d digits: %d, %d", r.n, r.digits, got, e)
		}
	}
	for _, digits := range []int{-1, 4, math.MinInt, math.MaxInt} {
		if got, e := fixed.Round(1250, digits); got != 0 || e != api.ErrInvalid {
			t.Errorf("%d digits: %d, %d", digits, got, e)
		}
	}
}

func TestP1_5Text(t *testing.T) {
	for n, want := range map[int64]string{
		0: "0", 1: "0.001", 10: "0.01", 100: "0.1", 101: "0.101", 110: "0.11", 999: "0.999", 1000: "1", 2000: "2", 10000: "10", 1234: "1.234", 1010: "1.01",
		-1: "-0.001", -50: "-0.05", -1000: "-1", -1500: "-1.5",
		limit: "1000000000", limit - 1: "999999999.999", limit + 1: "1000000000", math.MaxInt64: "1000000000", -limit: "-1000000000", math.MinInt64: "-1000000000",
	} {
		if got := fixed.Text(n); got != want {
			t.Errorf("Text of %d: %q, not %q", n, got, want)
		}
	}
}

func TestP1_5Parse(t *testing.T) {
	zeros := strings.Repeat("0", 100000)
	for s, want := range map[string]int64{
		"0": 0, "-0": 0, "-0.000": 0, "1": 1000, "007.50": 7500, "1.005": 1005, "1.05": 1050, "1.5": 1500, "0.001": 1, "-0.001": -1, "-12.3": -12300,
		"1000000000": limit, "-1000000000": -limit, "1000000000.000": limit, "999999999.999": limit - 1, zeros + "1.5": 1500,
	} {
		if got, e := fixed.Parse(s); got != want || e != api.OK {
			t.Errorf("Parse %.40q: %d, %d", s, got, e)
		}
	}
}

func TestP1_5ParseErrors(t *testing.T) {
	for s, want := range map[string]api.Errno{
		"": api.ErrSyntax, "-": api.ErrSyntax, "--1": api.ErrSyntax, "+1": api.ErrSyntax, "1-": api.ErrSyntax, ".": api.ErrSyntax, "-.": api.ErrSyntax, "1.": api.ErrSyntax, ".5": api.ErrSyntax, "-.5": api.ErrSyntax,
		"1.2345": api.ErrSyntax, "1.0000": api.ErrSyntax, "1.2.3": api.ErrSyntax, "1..2": api.ErrSyntax, "1.-2": api.ErrSyntax, "1a": api.ErrSyntax, "1a2": api.ErrSyntax, "1.5x": api.ErrSyntax, " 1": api.ErrSyntax, "1 ": api.ErrSyntax, "1\n": api.ErrSyntax, "1,5": api.ErrSyntax,
		"1e3": api.ErrSyntax, "0x1": api.ErrSyntax, "1_000": api.ErrSyntax, "\xff": api.ErrSyntax, "1\x00": api.ErrSyntax, "\u0661": api.ErrSyntax, "9/": api.ErrSyntax, "9:": api.ErrSyntax,
		"1000000001": api.ErrRange, "-1000000001": api.ErrRange, "1000000000.001": api.ErrRange, "-1000000000.001": api.ErrRange,
		"18446744073709551616": api.ErrRange, "18446744073709551.616": api.ErrRange, "9223372036854775808": api.ErrRange,
		strings.Repeat("9", 100000): api.ErrRange, strings.Repeat("9", 100000) + ".": api.ErrSyntax, "1000000001.0000": api.ErrSyntax,
	} {
		if got, e := fixed.Parse(s); got != 0 || e != want {
			t.Errorf("Parse %.40q: %d, %d", s, got, e)
		}
	}
}

func TestP1_5ParseOfText(t *testing.T) {
	random := rand.New(rand.NewSource(3))
	list := numbers()
	for n := range int64(3000) {
		list = append(list, n, -n, random.Int63n(limit), -random.Int63n(limit))
	}
	for _, n := range list {
		if got, e := fixed.Parse(fixed.Text(n)); got != clamped(n) || e != api.OK {
			t.Errorf("Parse of the text %q of %d: %d, %d", fixed.Text(n), n, got, e)
		}
	}
}

func TestP1_6Order(t *testing.T) {
	for _, a := range numbers() {
		for _, b := range numbers() {
			check(t,
				result{"Add", fixed.Add(a, b), fixed.Add(b, a)},
				result{"Mul", fixed.Mul(a, b), fixed.Mul(b, a)},
			)
		}
	}
	list, random := numbers(), rand.New(rand.NewSource(4))
	sum, mean := fixed.Sum(list), fixed.Mean(list)
	for range 100 {
		random.Shuffle(len(list), func(i, j int) { list[i], list[j] = list[j], list[i] })
		check(t, result{"Sum", fixed.Sum(list), sum}, result{"Mean", fixed.Mean(list), mean})
	}
}

func TestP1_6Signs(t *testing.T) {
	for _, a := range numbers() {
		if a == math.MinInt64 {
			continue // it has no negative
		}
		check(t, result{"Mean", fixed.Mean([]int64{-a, 7}), -fixed.Mean([]int64{a, -7})})
		for _, b := range numbers() {
			check(t,
				result{"Mul", fixed.Mul(-a, b), -fixed.Mul(a, b)},
				result{"Div", fixed.Div(-a, b), -fixed.Div(a, b)},
				result{"MulDiv", fixed.MulDiv(-a, b, 77), -fixed.MulDiv(a, b, 77)},
			)
		}
	}
}

// rises fails unless f is monotone on the numbers, and has results in range.
func rises(t *testing.T, name string, f func(n int64) int64) {
	t.Helper()
	list := append(numbers(), -30, -20, -10, -5, 5, 10, 20, 30, 450, 550, 1450, 1550)
	slices.Sort(list)
	last := int64(-limit)
	for _, n := range list {
		got := f(n)
		if got < last || got > limit {
			t.Errorf("%s of %d is %d after %d", name, n, got, last)
		}
		last = got
	}
}

func TestP1_6Monotone(t *testing.T) {
	for _, a := range numbers() {
		rises(t, "Add", func(n int64) int64 { return fixed.Add(n, a) })
		if a >= 0 {
			rises(t, "Mul", func(n int64) int64 { return fixed.Mul(n, a) })
		}
		for _, b := range numbers() {
			if a > b {
				continue
			}
			rises(t, "Line", func(n int64) int64 { return fixed.Line(n, -20, a, 30, b) })
			rises(t, "Line", func(n int64) int64 { return fixed.Line(n, a, -20, b, 30) })
		}
	}
	for digits := range 4 {
		rises(t, "Round", func(n int64) int64 { r, _ := fixed.Round(n, digits); return r })
	}
}

func TestP1_6LineLiesBetween(t *testing.T) {
	for _, x := range numbers() {
		for _, a := range numbers() {
			for _, b := range numbers() {
				y := fixed.Line(x, a, b, b, a)
				if y < min(clamped(a), clamped(b)) || y > max(clamped(a), clamped(b)) {
					t.Fatalf("Line of %d with %d and %d: %d", x, a, b, y)
				}
			}
		}
	}
}

func TestP1_6ThousandIsOne(t *testing.T) {
	for _, n := range numbers() {
		check(t, result{"Mul", fixed.Mul(n, 1000), fixed.Clamp(n)}, result{"Div", fixed.Div(n, 1000), fixed.Clamp(n)})
	}
}
