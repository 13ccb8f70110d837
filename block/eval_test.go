package block_test

import (
	"math"
	"math/big"
	"math/rand"
	"slices"
	"strings"
	"testing"

	"plenum/api"
	"plenum/block"
)

// most is the greatest analog number.
const most = api.MaxAnalog

// analog, binary and multi make lists of values.
func analog(numbers ...int64) []api.Value { return values(api.Analog, numbers) }
func binary(numbers ...int64) []api.Value { return values(api.Binary, numbers) }
func multi(numbers ...int64) []api.Value  { return values(api.Multi, numbers) }

// values makes values of a kind.
func values(kind int, numbers []int64) []api.Value {
	var list []api.Value
	for _, n := range numbers {
		list = append(list, api.Value{Kind: kind, N: n})
	}
	return list
}

// stateless are the blocks of this layer.
func stateless() []string {
	return []string{"above", "abs", "add", "and", "below", "choose", "div", "limit", "line", "max", "mean", "min", "mul", "neg", "not", "or", "pick", "sub", "xor"}
}

// example is an evaluation.
type example struct {
	name   string
	params []int64
	in     []api.Value
	want   api.Value
}

// check checks evaluations.
func check(t *testing.T, list []example) {
	t.Helper()
	for i, c := range list {
		in, params := slices.Clone(c.in), slices.Clone(c.params)
		if v, e := block.Eval(c.name, params, in); v != c.want || e != api.OK {
			t.Errorf("Eval %d of %s of %v: %v, %d, not %v", i, c.name, c.in, v, e, c.want)
		}
		if !slices.Equal(in, c.in) || !slices.Equal(params, c.params) {
			t.Errorf("Eval %d of %s has changed its arguments", i, c.name)
		}
	}
}

func TestP18_3Numbers(t *testing.T) {
	var list []example
	add := func(name string, want int64, in ...int64) {
		list = append(list, example{name, nil, analog(in...), analog(want)[0]})
	}
	add("add", 4000, 1500, 2500)
	add("add", most, most, 1)
	add("add", -most, -most, -1)
	add("add", 0, math.MaxInt64, math.MinInt64)
	add("add", most-1, math.MaxInt64, -1)
	add("sub", -3, 1, 4)
	add("sub", most, 1, -most)
	add("sub", 0, math.MinInt64, math.MinInt64)
	add("sub", 5-most, 5, math.MaxInt64)
	add("mul", 3750, 1500, 2500)
	add("mul", -1, -1, 500)
	add("mul", 0, 1, 499)
	add("mul", most, most, most)
	add("mul", -most, math.MinInt64, 1001)
	add("div", 333, 1000, 3000)
	add("div", -667, -2000, 3000)
	add("div", most, 5, 0)
	add("div", -most, -5, 0)
	add("div", 0, 0, 0)
	add("div", 1000, math.MaxInt64, most)
	add("mean", 2, 1, 2, 4)
	add("mean", 2, 1, 2)
	add("mean", -2, -1, -2)
	add("mean", most, most, most, most, most, most, most, most, most)
	add("mean", 0, math.MaxInt64, math.MinInt64)
	add("mean", 1, 0, 0, 0, 0, 0, 0, 0, 4)
	add("mean", 0, 0, 0, 0, 0, 0, 0, 0, 3)
	add("min", -3, 2, -3)
	add("min", -3, -3, 2)
	add("min", -most, 0, math.MinInt64)
	add("min", most, math.MaxInt64, math.MaxInt64)
	add("max", 2, 2, -3)
	add("max", 2, -3, 2)
	add("max", most, math.MaxInt64, 5)
	add("neg", -7, 7)
	add("neg", 7, -7)
	add("neg", 0, 0)
	add("neg", most, math.MinInt64)
	add("neg", -most, math.MaxInt64)
	add("abs", 7, -7)
	add("abs", 7, 7)
	add("abs", 0, 0)
	add("abs", most, math.MinInt64)
	add("abs", most, most+1)
	check(t, list)
}

func TestP18_3Params(t *testing.T) {
	var list []example
	add := func(name string, want, in int64, params ...int64) {
		list = append(list, example{name, params, analog(in), analog(want)[0]})
	}
	for in, want := range map[int64]int64{-6: -5, -5: -5, -4: -4, 0: 0, 6: 6, 7: 7, 8: 7, math.MaxInt64: 7, math.MinInt64: -5} {
		add("limit", want, in, -5, 7)
		add("limit", 7, in, 7, 7)
	}
	add("limit", most, math.MaxInt64, -most, most)
	add("limit", -most, math.MinInt64, -most, most)
	add("limit", 123, 123, -most, most)
	for in, want := range map[int64]int64{-1: 20000, 0: 20000, 1: 19999, 5000: 15000, 9999: 10001, 10000: 10000, 10001: 10000, math.MaxInt64: 10000, math.MinInt64: 20000} {
		add("line", want, in, 0, 20000, 10000, 10000)
	}
	for in, want := range map[int64]int64{0: 0, 3: 30, 10: 100, 11: 100, -1: 0} {
		add("line", want, in, 0, 0, 10, 100)
	}
	add("line", 2, 1, 0, 0, 2, 3)
	add("line", -2, 1, 0, 0, 2, -3)
	add("line", 0, 0, -most, -most, most, most)
	check(t, list)
}

func TestP18_3Binary(t *testing.T) {
	off, on := binary(0)[0], binary(1)[0]
	var list []example
	add := func(name string, want api.Value, in []api.Value) { list = append(list, example{name, nil, in, want}) }
	add("above", on, analog(2, 1))
	add("above", off, analog(1, 1))
	add("above", off, analog(1, 2))
	add("above", off, analog(math.MaxInt64, most))
	add("above", off, analog(-most, math.MinInt64))
	add("above", on, analog(most, most-1))
	add("below", off, analog(2, 1))
	add("below", off, analog(1, 1))
	add("below", on, analog(1, 2))
	add("below", off, analog(most, math.MaxInt64))
	add("below", off, analog(math.MinInt64, -most))
	add("not", on, binary(0))
	add("not", off, binary(1))
	for a := range int64(2) {
		for b := range int64(2) {
			add("and", binary(a & b)[0], binary(a, b))
			add("or", binary(a | b)[0], binary(a, b))
			add("xor", binary(a ^ b)[0], binary(a, b))
		}
	}
	for count := int64(2); count <= 8; count++ {
		for bits := range int64(1) << count {
			var in []int64
			for i := range count {
				in = append(in, bits>>i&1)
			}
			isAll, isSome := int64(0), int64(0)
			if bits == 1<<count-1 {
				isAll = 1
			}
			if bits != 0 {
				isSome = 1
			}
			add("and", binary(isAll)[0], binary(in...))
			add("or", binary(isSome)[0], binary(in...))
		}
	}
	check(t, list)
}

func TestP18_3Selections(t *testing.T) {
	var list []example
	for _, kind := range []int{api.Analog, api.Binary, api.Multi} {
		in := values(kind, []int64{1, 0, 1, 1, 0, 1, 0})
		switch kind {
		case api.Analog:
			// The results are the values themselves, which are not clamped.
			in = analog(7, 8, most+1, math.MaxInt64, math.MinInt64, -most-1, 9)
		case api.Multi:
			in = multi(3, 1, 16, 4, 5, 7, 2)
		}
		for _, pair := range [][]api.Value{in[:2], in[2:4], in[4:6]} {
			list = append(list, example{"pick", nil, append(binary(1), pair...), pair[0]}, example{"pick", nil, append(binary(0), pair...), pair[1]})
		}
		for count := 1; count <= len(in); count++ {
			for state := 1; state <= 16; state++ {
				list = append(list, example{"choose", nil, append(multi(int64(state)), in[:count]...), in[min(state, count)-1]})
			}
		}
	}
	check(t, list)
}

// clamped returns a number within the limits.
func clamped(n int64) int64 { return min(max(n, -most), most) }

// rounded returns a number, rounded half away from zero, within the limits.
func rounded(x *big.Rat) int64 {
	text := x.FloatString(0) // is rounded so
	n, _ := new(big.Int).SetString(text, 10)
	switch limit := big.NewInt(most); {
	case n.Cmp(limit) > 0:
		return most
	case n.Cmp(new(big.Int).Neg(limit)) < 0:
		return -most
	}
	return n.Int64()
}

// quotient returns a * b / c, rounded, with the division by 0 of the document.
func quotient(a, b, c int64) int64 {
	product := new(big.Int).Mul(big.NewInt(a), big.NewInt(b))
	if c == 0 {
		return int64(product.Sign()) * most
	}
	return rounded(new(big.Rat).SetFrac(product, big.NewInt(c)))
}

// numberByDefinition returns what a block of numbers gives, as the document says it.
func numberByDefinition(name string, p, in []int64) int64 {
	sum := int64(0)
	for _, n := range in {
		sum += n
	}
	a, b := in[0], in[len(in)-1]
	switch name {
	case "add":
		return clamped(a + b)
	case "sub":
		return clamped(a - b)
	case "mul":
		return quotient(a, b, 1000)
	case "div":
		return quotient(a, 1000, b)
	case "mean":
		return quotient(sum, 1, int64(len(in)))
	case "min":
		return min(a, b)
	case "max":
		return max(a, b)
	case "neg":
		return -a
	case "abs":
		return max(a, -a)
	case "limit":
		if a > p[1] {
			return p[1]
		}
		return max(a, p[0])
	}
	switch x1, y1, x2, y2 := p[0], p[1], p[2], p[3]; {
	case a <= x1:
		return y1
	case a >= x2:
		return y2
	default:
		rise := new(big.Int).Mul(big.NewInt(a-x1), big.NewInt(y2-y1))
		height := new(big.Rat).SetFrac(rise, big.NewInt(x2-x1))
		return rounded(height.Add(height, new(big.Rat).SetInt64(y1)))
	}
}

// randomNumber makes a number that is small, great or neither.
func randomNumber(r *rand.Rand) int64 {
	switch r.Intn(5) {
	case 0:
		return r.Int63n(21) - 10
	case 1:
		return r.Int63n(2*most+21) - most - 10
	case 2:
		return int64(r.Uint64())
	}
	return r.Int63n(200001) - 100000
}

// randomParams makes params of a block that are allowed.
func randomParams(r *rand.Rand, name string) []int64 {
	number := func() int64 { return clamped(randomNumber(r)) }
	switch name {
	case "limit":
		list := []int64{number(), number()}
		slices.Sort(list)
		return list
	case "line":
		x1, x2 := number(), number()
		if x1 == x2 {
			return []int64{0, number(), 1, number()}
		}
		return []int64{min(x1, x2), number(), max(x1, x2), number()}
	}
	return nil
}

func TestP18_3Definition(t *testing.T) {
	r := rand.New(rand.NewSource(1))
	for range 5000 {
		for _, name := range []string{"add", "sub", "mul", "div", "mean", "min", "max", "neg", "abs", "limit", "line"} {
			count := 2
			switch name {
			case "neg", "abs", "limit", "line":
				count = 1
			case "mean":
				count = 2 + r.Intn(7)
			}
			var in, bounded []int64
			for range count {
				n := randomNumber(r)
				in, bounded = append(in, n), append(bounded, clamped(n))
			}
			params := randomParams(r, name)
			want := analog(numberByDefinition(name, params, bounded))[0]
			if v, e := block.Eval(name, params, analog(in...)); v != want || e != api.OK {
				t.Fatalf("Eval of %s %v of %v: %v, %d, not %v", name, params, in, v, e, want)
			}
		}
	}
}

// fitting makes as many values as a block has at least, which fit it.
func fitting(name string) []api.Value {
	switch name {
	case "and", "or", "xor":
		return binary(0, 1)
	case "not":
		return binary(1)
	case "pick":
		return append(binary(1), analog(5, 6)...)
	case "choose":
		return append(multi(1), analog(5)...)
	case "abs", "neg", "limit", "line":
		return analog(5)
	}
	return analog(5, 6)
}

// usual returns the params of a block.
func usual(name string) []int64 {
	params, _ := block.Params(name, nil)
	return params
}

func TestP18_3Unknown(t *testing.T) {
	others := unknown()
	for _, name := range block.Names() {
		if !slices.Contains(stateless(), name) {
			others = append(others, name)
		}
	}
	if len(others) != len(unknown())+33-19 {
		t.Errorf("other blocks: %d", len(others))
	}
	for _, name := range others {
		ports, _ := block.Inputs(name, 2)
		for _, in := range [][]api.Value{nil, analog(1), analog(1, 2), binary(1), binary(0, 1), analog(1, 2, 3), {{}, {Kind: 4}}, append(analog(1, 2), binary(1)...), make([]api.Value, len(ports))} {
			for _, params := range [][]int64{nil, usual(name), {-1}} {
				if v, e := block.Eval(name, params, in); v != (api.Value{}) || e != api.ErrUnknown {
					t.Errorf("Eval of %.30q of %v: %v, %d", name, in, v, e)
				}
			}
		}
	}
}

func TestP18_3Invalid(t *testing.T) {
	refuse := func(name string, params []int64, in []api.Value) {
		t.Helper()
		if v, e := block.Eval(name, params, in); v != (api.Value{}) || e != api.ErrInvalid {
			t.Errorf("Eval of %s with %v of %v: %v, %d", name, params, in, v, e)
		}
	}
	for _, name := range stateless() {
		good, in := usual(name), fitting(name)
		if _, e := block.Eval(name, good, in); e != api.OK {
			t.Errorf("Eval of %s: %d", name, e)
		}
		refuse(name, append(slices.Clone(good), 0), in)
		if len(good) > 0 {
			refuse(name, good[1:], in)
			refuse(name, nil, in)
		}
		for i := range good {
			for _, n := range []int64{math.MinInt64, -most - 1, most + 1, math.MaxInt64} {
				bad := slices.Clone(good)
				bad[i] = n
				refuse(name, bad, in)
			}
		}
		for count := range 12 {
			if _, e := block.Inputs(name, count); e != api.OK {
				// Too few or too many inputs come before values that do not fit.
				refuse(name, good, slices.Repeat(in[len(in)-1:], count))
				refuse(name, good, make([]api.Value, count))
			}
		}
		refuse(name, good, make([]api.Value, 100000))
		refuse(name, append(slices.Clone(good), 0), make([]api.Value, len(in)))
	}
	refuse("limit", []int64{6, 5}, analog(5))
	refuse("limit", []int64{6, 5}, binary(1))
	refuse("line", []int64{0, 0, 0, 1}, analog(5))
	refuse("line", []int64{1, 0, 0, 1}, analog(5))
	refuse("line", []int64{1, 0, 0, 1}, nil)
}

// doFit reports whether values fit the inputs of a block, as the document says it.
func doFit(name string, in []api.Value) bool {
	ports, _ := block.Inputs(name, len(in))
	var free []int
	for i, port := range ports {
		n := in[i].N
		isOne := map[int]bool{api.Analog: true, api.Binary: n == 0 || n == 1, api.Multi: 1 <= n && n <= 16}
		want := api.Analog
		switch port.Type {
		case "binary":
			want = api.Binary
		case "multi":
			want = api.Multi
		case "T":
			want = in[i].Kind
			free = append(free, want)
		}
		if in[i].Kind != want || !isOne[want] {
			return false
		}
	}
	slices.Sort(free)
	return len(slices.Compact(free)) <= 1
}

func TestP18_3Types(t *testing.T) {
	r := rand.New(rand.NewSource(2))
	kinds := []int{api.Analog, api.Analog, api.Binary, api.Binary, api.Multi, api.Multi, api.Null, 4, -1}
	numbers := []int64{0, 1, 1, 1, 2, 16, 17, -1, math.MinInt64, math.MaxInt64}
	fits := map[string]int{}
	for range 4000 {
		for _, name := range stateless() {
			d, _ := block.Find(name)
			in := make([]api.Value, len(d.Inputs)+r.Intn(d.Most))
			if r.Intn(2) == 0 {
				copy(in, fitting(name))
				for i := len(d.Inputs); i < len(in); i++ {
					in[i] = in[len(d.Inputs)-1]
				}
				in[r.Intn(len(in))].N = numbers[r.Intn(len(numbers))]
			} else {
				for i := range in {
					in[i] = api.Value{Kind: kinds[r.Intn(len(kinds))], N: numbers[r.Intn(len(numbers))]}
				}
			}
			v, e := block.Eval(name, usual(name), in)
			if doFit(name, in) {
				fits[name]++
				if e != api.OK {
					t.Fatalf("Eval of %s of %v: %d", name, in, e)
				}
			} else if v != (api.Value{}) || e != api.ErrType {
				t.Fatalf("Eval of %s of %v: %v, %d", name, in, v, e)
			}
		}
	}
	for _, name := range stateless() {
		if fits[name] < 100 || fits[name] > 3900 {
			t.Errorf("%d of 4000 lists fit %s", fits[name], name)
		}
	}
}

func TestP18_3Kinds(t *testing.T) {
	refuse := func(name string, in ...[]api.Value) {
		t.Helper()
		if v, e := block.Eval(name, usual(name), slices.Concat(in...)); v != (api.Value{}) || e != api.ErrType {
			t.Errorf("Eval of %s of %v: %v, %d", name, in, v, e)
		}
	}
	refuse("pick", binary(1), analog(1), binary(1))
	refuse("pick", binary(1), binary(1), multi(1))
	refuse("pick", binary(1), make([]api.Value, 2))
	refuse("pick", binary(1), values(4, []int64{1, 1}))
	refuse("pick", binary(1), binary(1, 2))
	refuse("pick", binary(2), analog(1, 2))
	refuse("pick", analog(1, 1, 2))
	refuse("choose", multi(1), multi(1, 2, 3), analog(1))
	refuse("choose", multi(1), analog(1, 2, 3), make([]api.Value, 1))
	refuse("choose", multi(1), multi(1, 17))
	refuse("choose", multi(0), analog(1))
	refuse("choose", multi(17), analog(1))
	refuse("choose", analog(1, 1))
	refuse("add", analog(1), binary(1))
	refuse("and", binary(1, 1, 1, 1, 1, 1, 1, 2))
	refuse("mean", analog(1, 1, 1, 1, 1, 1, 1), multi(1))
}

// compute evaluates a block of numbers.
func compute(t *testing.T, name string, params []int64, in ...int64) int64 {
	t.Helper()
	v, e := block.Eval(name, params, analog(in...))
	if e != api.OK || v.Kind != api.Analog {
		t.Fatalf("Eval of %s of %v: %v, %d", name, in, v, e)
	}
	return v.N
}

func TestP18_4Numbers(t *testing.T) {
	r := rand.New(rand.NewSource(3))
	for range 20000 {
		a, b := randomNumber(r), randomNumber(r)
		if lesser, mean, greater := compute(t, "min", nil, a, b), compute(t, "mean", nil, a, b), compute(t, "max", nil, a, b); lesser > mean || mean > greater {
			t.Fatalf("min, mean and max of %d and %d: %d, %d, %d", a, b, lesser, mean, greater)
		}
		for _, name := range []string{"add", "mul", "min", "max"} {
			if x, y := compute(t, name, nil, a, b), compute(t, name, nil, b, a); x != y {
				t.Fatalf("%s of %d and %d: %d and %d", name, a, b, x, y)
			}
		}
		// A greater number never gives a lesser result.
		up := a + r.Int63n(1000)
		if up < a {
			up = math.MaxInt64
		}
		for _, name := range []string{"add", "min", "max", "sub"} {
			if x, y := compute(t, name, nil, a, b), compute(t, name, nil, up, b); x > y {
				t.Fatalf("%s of %d or %d and %d: %d and %d", name, a, up, b, x, y)
			}
			if name != "sub" && compute(t, name, nil, b, a) > compute(t, name, nil, b, up) {
				t.Fatalf("%s of %d and %d or %d falls", name, b, a, up)
			}
		}
		limits := randomParams(r, "limit")
		x, y := compute(t, "limit", limits, a), compute(t, "limit", limits, up)
		if x > y || x < limits[0] || y > limits[1] {
			t.Fatalf("limit %v of %d or %d: %d and %d", limits, a, up, x, y)
		}
		in := []int64{a, b, up, randomNumber(r)}
		mean := compute(t, "mean", nil, in...)
		i := r.Intn(len(in))
		if in[i] < math.MaxInt64-1000 {
			in[i] += r.Int63n(1000)
		}
		if more := compute(t, "mean", nil, in...); more < mean {
			t.Fatalf("mean falls to %d from %d with %v", more, mean, in)
		}
		before := compute(t, "mean", nil, in...)
		r.Shuffle(len(in), func(i, k int) { in[i], in[k] = in[k], in[i] })
		if compute(t, "mean", nil, in...) != before {
			t.Fatalf("mean of %v depends on their order", in)
		}
	}
}

func TestP18_4Binary(t *testing.T) {
	r := rand.New(rand.NewSource(4))
	eval := func(name string, in []api.Value) api.Value {
		v, e := block.Eval(name, nil, in)
		if e != api.OK || v.Kind != api.Binary {
			t.Fatalf("Eval of %s of %v: %v, %d", name, in, v, e)
		}
		return v
	}
	negated := func(v api.Value) api.Value { return eval("not", []api.Value{v}) }
	for range 5000 {
		var in, inverse []api.Value
		for range 2 + r.Intn(7) {
			v := binary(r.Int63n(2))[0]
			in, inverse = append(in, v), append(inverse, negated(v))
		}
		both, some := eval("and", in), eval("or", in)
		if negated(both) != eval("or", inverse) || negated(some) != eval("and", inverse) {
			t.Fatalf("not of and, or of %v", in)
		}
		r.Shuffle(len(in), func(i, k int) { in[i], in[k] = in[k], in[i] })
		if eval("and", in) != both || eval("or", in) != some {
			t.Fatalf("and, or of %v depend on their order", in)
		}
	}
}

func TestP1(t *testing.T) {
	r := rand.New(rand.NewSource(5))
	names := append(block.Names(), unknown()...)
	for range 100000 {
		name := names[r.Intn(len(names))]
		var params []int64
		for range r.Intn(7) {
			params = append(params, randomNumber(r))
		}
		var in []api.Value
		for range r.Intn(10) {
			in = append(in, api.Value{Kind: r.Intn(6) - 1, N: randomNumber(r)})
		}
		if v, e := block.Eval(name, params, in); e != api.OK && v != (api.Value{}) {
			t.Fatalf("Eval of %.30q with %v of %v: %v, %d", name, params, in, v, e)
		}
		var list []api.Param
		for _, n := range params {
			list = append(list, param([]string{"low", "high", "on", "off", "time", "x1", "x2", strings.Repeat("x", 1000)}[r.Intn(8)], n))
		}
		if got, e := block.Params(name, list); e != api.OK && len(got) != 0 {
			t.Fatalf("Params of %.30q with %v: %v, %d", name, list, got, e)
		}
	}
}
