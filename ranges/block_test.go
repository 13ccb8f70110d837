package ranges_test

import (
	"math"
	"math/rand"
	"slices"
	"testing"

	"plenum/api"
	"plenum/block"
	"plenum/fixed"
	"plenum/psychro"
	"plenum/ranges"
)

// most is the greatest number.
const most = api.MaxAnalog

// span makes a range, and at one of a single number.
func span(lo, hi int64) api.Span { return api.Span{Lo: lo, Hi: hi} }
func at(n int64) api.Span        { return span(n, n) }

// spans makes ranges of pairs of ends.
func spans(ends ...int64) []api.Span {
	var list []api.Span
	for i := 0; i < len(ends); i += 2 {
		list = append(list, span(ends[i], ends[i+1]))
	}
	return list
}

// params makes params of names and values.
func params(words ...any) []api.Param {
	var list []api.Param
	for i := 0; i < len(words); i += 2 {
		list = append(list, api.Param{Name: words[i].(string), Value: int64(words[i+1].(int))})
	}
	return list
}

// example is a block with ranges of its inputs, and its range.
type example struct {
	name   string
	params []api.Param
	in     []api.Span
	want   api.Span
}

// check compares examples with what Block returns.
func check(t *testing.T, list []example) {
	t.Helper()
	for i, x := range list {
		given, before := slices.Clone(x.in), slices.Clone(x.params)
		if got, e := ranges.Block(api.Node{Block: x.name, Params: before}, given); got != x.want || e != api.OK {
			t.Errorf("%d: Block of %s %v over %v: %v, %d, not %v", i, x.name, x.params, x.in, got, e, x.want)
		}
		if !slices.Equal(given, x.in) || !slices.Equal(before, x.params) {
			t.Errorf("%d: Block of %s changed its arguments", i, x.name)
		}
	}
}

func TestP29_1Arithmetic(t *testing.T) {
	check(t, []example{
		{"add", nil, spans(1, 2, 10, 20), span(11, 22)}, {"add", nil, spans(-5, 7, -9, 1), span(-14, 8)}, {"add", nil, spans(-most, most, 1, 2), span(1-most, most)}, {"add", nil, spans(5, 5, 6, 6), at(11)},
		{"sub", nil, spans(1, 2, 10, 20), span(-19, -8)}, {"sub", nil, spans(-most, 0, 1, 5), span(-most, -1)}, {"sub", nil, spans(3, 4, -7, -6), span(9, 11)},
		{"min", nil, spans(1, 9, 3, 4), span(1, 4)}, {"min", nil, spans(5, 9, 3, 4), span(3, 4)}, {"max", nil, spans(1, 9, 3, 4), span(3, 9)}, {"max", nil, spans(1, 2, 3, 4), span(3, 4)},
		{"mean", nil, spans(0, 3, 1, 4, 2, 5), span(1, 4)}, {"mean", nil, spans(1, 2, 2, 3), span(2, 3)}, {"mean", nil, spans(-2, -1, -1, -1), span(-2, -1)}, {"mean", nil, spans(0, 1, 0, 1, 0, 1, 0, 1, 0, 1, 0, 1, 0, 1, 0, 8), span(0, 2)},
		{"mul", nil, spans(2000, 3000, 4000, 5000), span(8000, 15000)}, {"mul", nil, spans(-2000, 3000, 4000, 5000), span(-10000, 15000)}, {"mul", nil, spans(-2000, 3000, -1000, 5000), span(-10000, 15000)}, {"mul", nil, spans(-3000, -2000, -5000, -4000), span(8000, 15000)}, {"mul", nil, spans(-3000, 2000, -5000, 4000), span(-12000, 15000)}, {"mul", nil, spans(0, 0, -most, most), at(0)}, {"mul", nil, spans(-most, most, 999, 1001), span(-most, most)}, {"mul", nil, spans(1, 3, 499, 500), span(0, 2)},
		{"div", nil, spans(1, 2, -1, 1), span(-most, most)}, {"div", nil, spans(1, 2, 0, 1), span(-most, most)}, {"div", nil, spans(1, 2, -1, 0), span(-most, most)}, {"div", nil, spans(0, 0, 0, 0), span(-most, most)}, {"div", nil, spans(1, 2, 1, 1), span(1000, 2000)}, {"div", nil, spans(1, 2, -1, -1), span(-2000, -1000)}, {"div", nil, spans(-1000, 2000, 1000, 4000), span(-1000, 2000)}, {"div", nil, spans(1000, 2000, 3000, 4000), span(250, 667)}, {"div", nil, spans(-2000, -1000, -4000, -3000), span(250, 667)}, {"div", nil, spans(1000, 2000, -4000, -1000), span(-2000, -250)}, {"div", nil, spans(most, most, 1, 2), at(most)},
		{"neg", nil, spans(-1, 5), span(-5, 1)}, {"neg", nil, spans(most, most), at(-most)},
		{"abs", nil, spans(-7, 5), span(0, 7)}, {"abs", nil, spans(-5, 7), span(0, 7)}, {"abs", nil, spans(-7, -5), span(5, 7)}, {"abs", nil, spans(5, 7), span(5, 7)}, {"abs", nil, spans(0, 7), span(0, 7)}, {"abs", nil, spans(-7, 0), span(0, 7)}, {"abs", nil, spans(-1, 7), span(0, 7)}, {"abs", nil, spans(0, 0), at(0)},
	})
}

func TestP29_1Params(t *testing.T) {
	limits := params("high", 10, "low", 0)
	fall := params("x2", 10, "y1", 100, "y2", 0)
	check(t, []example{
		{"limit", limits, spans(-5, 7), span(0, 7)}, {"limit", limits, spans(3, 7), span(3, 7)}, {"limit", limits, spans(3, 70), span(3, 10)}, {"limit", limits, spans(-9, -1), at(0)}, {"limit", limits, spans(11, 12), at(10)}, {"limit", nil, spans(-most, most), span(-most, most)}, {"limit", params("high", 5, "low", 5), spans(-most, most), at(5)},
		{"line", fall, spans(0, 5), span(50, 100)}, {"line", fall, spans(-5, 50), span(0, 100)}, {"line", fall, spans(20, 30), at(0)}, {"line", nil, spans(3, 7), span(3, 7)}, {"line", params("x2", 2, "y2", 3), spans(1, 2), span(2, 3)}, {"line", params("y1", 9, "y2", 9), spans(-most, most), at(9)},
		{"hyst", nil, spans(0, 1000), at(0)}, {"hyst", nil, spans(0, 1001), span(0, 1)}, {"hyst", nil, spans(1001, 2000), span(0, 1)}, {"hyst", params("off", -5, "on", -2), spans(-9, -2), at(0)}, {"hyst", params("off", -5, "on", -2), spans(-1, -1), span(0, 1)},
		{"pid", nil, spans(-most, most, -most, most, 0, 1), span(0, 100000)}, {"pid", nil, spans(0, 0, 0, 0, 0, 0), span(0, 100000)}, {"pid", params("high", 7, "kp", 0, "low", -3, "reverse", 1, "ti", 60), spans(1, 2, 3, 4, 1, 1), span(-3, 7)}, {"pid", params("high", 7, "low", 7), spans(1, 2, 3, 4, 1, 1), at(7)},
		{"rate", nil, spans(3, 8), span(3, 8)}, {"rate", params("down", 0, "up", 0), spans(-3, -3), at(-3)},
		{"stage", nil, spans(-5, 0), at(1)}, {"stage", nil, spans(-5, 1), span(1, 2)}, {"stage", params("stages", 3), spans(0, 1), span(1, 4)}, {"stage", params("down", 50, "stages", 15, "up", 80), spans(-most, 80), at(1)}, {"stage", params("down", 50, "stages", 15, "up", 80), spans(81, 81), span(1, 16)}, {"stage", params("down", 90, "stages", 15, "up", 80), spans(85, 85), span(1, 16)},
		{"steps", nil, spans(0, 0, 0, 1), at(1)}, {"steps", params("count", 5), spans(0, 0, 1, 1), at(1)}, {"steps", params("count", 5), spans(0, 0, 0, 0), at(1)}, {"steps", params("count", 5), spans(0, 1, 0, 0), span(1, 2)}, {"steps", params("count", 5), spans(1, 1, 0, 0), span(1, 2)}, {"steps", params("count", 5), spans(0, 1, 0, 1), span(1, 6)}, {"steps", params("count", 5, "least", 9), spans(1, 1, 1, 1), span(1, 6)}, {"steps", nil, spans(1, 1, 1, 1), span(1, 2)}, {"steps", params("count", 15), spans(0, 1, 1, 1), span(1, 16)},
	})
}

func TestP29_1Binary(t *testing.T) {
	off, on, any := at(0), at(1), span(0, 1)
	list := []example{
		{"above", nil, spans(5, 9, 1, 4), on}, {"above", nil, spans(5, 9, 1, 5), any}, {"above", nil, spans(1, 4, 4, 9), off}, {"above", nil, spans(1, 5, 4, 9), any}, {"above", nil, spans(1, 3, 4, 9), off}, {"above", nil, spans(4, 4, 4, 4), off}, {"above", nil, spans(5, 5, 4, 4), on},
		{"below", nil, spans(1, 3, 4, 9), on}, {"below", nil, spans(1, 4, 4, 9), any}, {"below", nil, spans(4, 9, 1, 4), off}, {"below", nil, spans(4, 9, 1, 5), any}, {"below", nil, spans(5, 9, 1, 4), off}, {"below", nil, spans(4, 4, 4, 4), off}, {"below", nil, spans(3, 3, 4, 4), on},
		{"choose", nil, spans(2, 9, 1, 1, 5, 6, 3, 4), span(3, 6)}, {"choose", nil, spans(1, 1, 1, 1, 5, 6, 3, 4), on}, {"choose", nil, spans(1, 2, 1, 1, 5, 6, 3, 4), span(1, 6)}, {"choose", nil, spans(2, 2, 1, 1, 5, 6, 3, 4), span(5, 6)}, {"choose", nil, spans(3, 3, 1, 1, 5, 6, 3, 4), span(3, 4)}, {"choose", nil, spans(4, 16, 1, 1, 5, 6, 3, 4), span(3, 4)}, {"choose", nil, spans(1, 3, 1, 1, 5, 6, 3, 4), span(1, 6)}, {"choose", nil, spans(1, 16, -5, 5), span(-5, 5)}, {"choose", nil, spans(-9, 1, 1, 2, 8, 9), span(1, 2)}, {"choose", nil, spans(-9, -9, 1, 2, 8, 9), span(1, 2)}, {"choose", nil, spans(99, 99, 1, 2, 8, 9), span(8, 9)},
		{"pick", nil, spans(1, 1, 5, 6, 8, 9), span(5, 6)}, {"pick", nil, spans(0, 0, 5, 6, 8, 9), span(8, 9)}, {"pick", nil, spans(0, 1, 5, 6, 8, 9), span(5, 9)}, {"pick", nil, spans(0, 1, 5, 9, 6, 7), span(5, 9)}, {"pick", nil, spans(0, 1, 8, 9, 5, 6), span(5, 9)},
	}
	for _, a := range []api.Span{off, on, any} {
		kept := map[api.Span]api.Span{off: off}
		add := func(name string, want api.Span, in ...api.Span) { list = append(list, example{name, nil, in, want}) }
		wanted := func(s api.Span) api.Span {
			if k, known := kept[s]; known {
				return k
			}
			return any
		}
		for _, name := range []string{"edge", "ondelay", "pulse", "minrun"} {
			add(name, wanted(a), a)
		}
		kept[on] = on
		add("offdelay", wanted(a), a)
		add("not", span(1-a.Hi, 1-a.Lo), a)
		for _, b := range []api.Span{off, on, any} {
			add("and", span(a.Lo*b.Lo, a.Hi*b.Hi), a, b)
			add("or", span(max(a.Lo, b.Lo), max(a.Hi, b.Hi)), a, b)
			if a == any || b == any {
				add("xor", any, a, b)
			} else {
				add("xor", at(a.Lo^b.Lo), a, b)
			}
			if a == off || b == on {
				add("latch", off, a, b)
				add("count", off, a, b)
			} else {
				add("latch", any, a, b)
				add("count", span(0, 1000000000000), a, b)
			}
		}
	}
	list = append(list, example{"and", nil, spans(0, 1, 1, 1, 1, 1, 1, 1, 1, 1, 1, 1, 1, 1, 1, 1), any}, example{"and", nil, spans(1, 1, 1, 1, 1, 1, 1, 1, 1, 1, 1, 1, 1, 1, 0, 0), off}, example{"and", nil, spans(1, 1, 1, 1, 1, 1), on}, example{"or", nil, spans(0, 0, 0, 0, 0, 0, 0, 0, 0, 0, 0, 0, 0, 0, 1, 1), on}, example{"or", nil, spans(0, 0, 0, 0, 0, 1), any}, example{"or", nil, spans(0, 0, 0, 0, 0, 0), off})
	check(t, list)
}

// Ranges of inputs are limited by the types of the ports.
func TestP29_1Limited(t *testing.T) {
	const far = math.MaxInt64
	check(t, []example{
		{"and", nil, spans(-9, 9, 1, 5), span(0, 1)}, {"and", nil, spans(2, 9, 1, 5), at(1)}, {"or", nil, spans(-far, -1, -5, 0), at(0)}, {"not", nil, spans(-5, -5), at(1)}, {"not", nil, spans(5, 7), at(0)}, {"xor", nil, spans(-5, 0, 1, 7), at(1)}, {"offdelay", nil, spans(3, far), at(1)}, {"edge", nil, spans(math.MinInt64, 0), at(0)}, {"latch", nil, spans(0, 1, 1, 2), at(0)}, {"latch", nil, spans(0, 2, 0, 2), span(0, 1)}, {"count", nil, spans(-1, 0, 0, 0), at(0)}, {"steps", nil, spans(-3, -1, 0, 1), at(1)},
		{"pick", nil, spans(1, 9, 5, 6, 8, 9), span(5, 6)}, {"pick", nil, spans(-9, 0, 5, 6, 8, 9), span(8, 9)}, {"pick", nil, spans(-9, 9, math.MinInt64, 6, 8, far), span(-most, most)}, {"choose", nil, spans(17, 99, 1, 2, -far, far), span(-most, most)},
		{"add", nil, spans(math.MinInt64, math.MinInt64, 1, 2), span(1-most, 2-most)}, {"sub", nil, spans(-far, far, -far, far), span(-most, most)}, {"neg", nil, spans(math.MinInt64, math.MaxInt64), span(-most, most)}, {"abs", nil, spans(math.MinInt64, -far), at(most)}, {"abs", nil, spans(math.MinInt64, 5), span(0, most)}, {"mean", nil, spans(far, far, 0, 0), at(most / 2)}, {"rate", nil, spans(math.MinInt64, far), span(-most, most)}, {"min", nil, spans(most+1, far, 3, 4), span(3, 4)}, {"above", nil, spans(most+5, far, most+1, most+2), at(0)}, {"above", nil, spans(most+5, far, 1-most, most-1), at(1)}, {"hyst", params("on", api.MaxAnalog), spans(0, far), at(0)}, {"stage", params("up", api.MaxAnalog), spans(far, far), at(1)}, {"div", nil, spans(1, 2, 0, far), span(-most, most)}, {"div", nil, spans(1000, 1000, most, far), at(0)},
	})
}

// isFixed reports whether a range is that of one number.
func isFixed(s api.Span, n int64) bool { return s.Lo == n && s.Hi == n }

// definition returns the range of a block, as the document's table has it. The ranges of the inputs are limited.
func definition(name string, p map[string]int64, in []api.Span) api.Span {
	for _, part := range []func(name string, p map[string]int64, in []api.Span) (api.Span, bool){ofNumbers, ofOperations, ofBinary, ofChoices} {
		if s, isDefined := part(name, p, in); isDefined {
			return s
		}
	}
	return ofStates(name, p, in)
}

// ofNumbers defines the ranges of blocks whose outputs rise or fall.
func ofNumbers(name string, _ map[string]int64, in []api.Span) (api.Span, bool) {
	a, b := in[0], in[len(in)-1]
	var lows, highs []int64
	for _, s := range in {
		lows, highs = append(lows, s.Lo), append(highs, s.Hi)
	}
	switch name {
	case "add":
		return span(fixed.Add(a.Lo, b.Lo), fixed.Add(a.Hi, b.Hi)), true
	case "min":
		return span(min(a.Lo, b.Lo), min(a.Hi, b.Hi)), true
	case "max":
		return span(max(a.Lo, b.Lo), max(a.Hi, b.Hi)), true
	case "mean":
		return span(fixed.Mean(lows), fixed.Mean(highs)), true
	case "sub":
		return span(fixed.Sub(a.Lo, b.Hi), fixed.Sub(a.Hi, b.Lo)), true
	case "neg":
		return span(-a.Hi, -a.Lo), true
	case "enthalpy":
		return span(psychro.Enthalpy(a.Lo, psychro.Ratio(a.Lo, b.Lo)), psychro.Enthalpy(a.Hi, psychro.Ratio(a.Hi, b.Hi))), true
	case "dewpoint":
		return span(psychro.Dew(psychro.Ratio(a.Lo, b.Lo)), psychro.Dew(psychro.Ratio(a.Hi, b.Hi))), true
	case "and":
		return span(slices.Min(lows), slices.Min(highs)), true
	case "or":
		return span(slices.Max(lows), slices.Max(highs)), true
	case "not":
		return span(1-a.Hi, 1-a.Lo), true
	}
	return api.Span{}, false
}

// ofOperations defines the ranges of the other blocks that compute numbers.
func ofOperations(name string, p map[string]int64, in []api.Span) (api.Span, bool) {
	a, b := in[0], in[len(in)-1]
	hullOf := func(f func(x, y int64) int64) api.Span {
		list := []int64{f(a.Lo, b.Lo), f(a.Lo, b.Hi), f(a.Hi, b.Lo), f(a.Hi, b.Hi)}
		return span(slices.Min(list), slices.Max(list))
	}
	switch name {
	case "mul":
		return hullOf(fixed.Mul), true
	case "div":
		if b.Lo <= 0 && b.Hi >= 0 {
			return span(-most, most), true
		}
		return hullOf(fixed.Div), true
	case "abs":
		if a.Lo > 0 {
			return a, true
		} else if a.Hi < 0 {
			return span(-a.Hi, -a.Lo), true
		}
		return span(0, max(-a.Lo, a.Hi)), true
	case "limit":
		return span(min(max(a.Lo, p["low"]), p["high"]), min(max(a.Hi, p["low"]), p["high"])), true
	case "line":
		return hullOf(func(x, _ int64) int64 { return fixed.Line(x, p["x1"], p["y1"], p["x2"], p["y2"]) }), true
	}
	return api.Span{}, false
}

// ofBinary defines the ranges of the other blocks with binary outputs and no state.
func ofBinary(name string, _ map[string]int64, in []api.Span) (api.Span, bool) {
	a, b := in[0], in[len(in)-1]
	switch name {
	case "above", "below":
		if name == "below" {
			a, b = b, a
		}
		if a.Lo > b.Hi {
			return at(1), true
		} else if a.Hi <= b.Lo {
			return at(0), true
		}
		return span(0, 1), true
	case "xor":
		if a.Lo == a.Hi && b.Lo == b.Hi {
			return at(a.Lo ^ b.Lo), true
		}
		return span(0, 1), true
	}
	return api.Span{}, false
}

// ofChoices defines the ranges of the blocks that choose one of their inputs.
func ofChoices(name string, _ map[string]int64, in []api.Span) (api.Span, bool) {
	var list []api.Span
	switch name {
	case "pick":
		if !isFixed(in[0], 0) {
			list = append(list, in[1])
		}
		if !isFixed(in[0], 1) {
			list = append(list, in[2])
		}
	case "choose":
		for n := in[0].Lo; n <= in[0].Hi; n++ {
			list = append(list, in[min(int(n), len(in)-1)])
		}
	default:
		return api.Span{}, false
	}
	s := list[0]
	for _, x := range list {
		s = span(min(s.Lo, x.Lo), max(s.Hi, x.Hi))
	}
	return s, true
}

// ofStates defines the ranges of the blocks with states.
func ofStates(name string, p map[string]int64, in []api.Span) api.Span {
	a, b := in[0], in[len(in)-1]
	isOff := isFixed(a, 0)
	switch name {
	case "pid":
		return span(p["low"], p["high"])
	case "rate":
		return a
	case "latch", "count":
		isOff = isOff || isFixed(b, 1)
	case "hyst":
		isOff = a.Hi <= p["on"]
	case "stage":
		if a.Hi <= p["up"] {
			return at(1)
		}
		return span(1, p["stages"]+1)
	case "steps":
		if isOff {
			return at(1)
		} else if isFixed(b, 0) {
			return span(1, 2)
		}
		return span(1, p["count"]+1)
	}
	switch {
	case isOff:
		return at(0)
	case name == "offdelay" && isFixed(a, 1):
		return at(1)
	case name == "count":
		return span(0, most)
	}
	return span(0, 1)
}

// widest returns the ends of what a port of a type can have.
func widest(text string) api.Span {
	switch text {
	case "binary":
		return span(0, 1)
	case "multi":
		return span(1, api.MaxStates)
	}
	return span(-most, most)
}

// pick returns one of some things.
func pick[T any](source *rand.Rand, list ...T) T { return list[source.Intn(len(list))] }

// randomNumber makes a number that is small, great or neither.
func randomNumber(source *rand.Rand) int64 {
	return pick(source, source.Int63n(7)-3, source.Int63n(7)-3, source.Int63n(200001)-100000, source.Int63n(200001)-100000, source.Int63n(2*most+1)-most, pick[int64](source, -most, most))
}

// randomSpan makes a range for a port with a type, sometimes one that reaches beyond what the port can have.
func randomSpan(source *rand.Rand, text string) api.Span {
	limits := widest(text)
	number := func() int64 {
		if text != "binary" && text != "multi" {
			return randomNumber(source)
		}
		return limits.Lo + source.Int63n(limits.Hi-limits.Lo+1)
	}
	a, b := number(), number()
	switch source.Intn(12) {
	case 0:
		a = int64(source.Uint64())
	case 1:
		a, b = int64(source.Uint64()), int64(source.Uint64())
	case 2, 3:
		b = a
	}
	return span(min(a, b), max(a, b))
}

// limited returns a range, limited as those of inputs are.
func limited(s, limits api.Span) api.Span {
	return span(min(max(s.Lo, limits.Lo), limits.Hi), min(max(s.Hi, limits.Lo), limits.Hi))
}

// randomParams returns params of a block without an error, sorted by name.
func randomParams(source *rand.Rand, name string) []api.Param {
	d, _ := block.Find(name)
	for {
		var list []api.Param
		for _, b := range d.Params {
			value := b.Lo + source.Int63n(min(b.Hi-b.Lo, 8)+1)
			if b.Lo < 0 || b.Hi > api.DaySeconds {
				value = min(max(randomNumber(source), b.Lo), b.Hi)
			}
			if source.Intn(3) > 0 {
				list = append(list, api.Param{Name: b.Name, Value: value})
			}
		}
		slices.SortFunc(list, func(a, b api.Param) int { return map[bool]int{true: -1, false: 1}[a.Name < b.Name] })
		if _, e := block.Params(name, list); e == api.OK {
			return list
		}
	}
}

// valuesOf returns the values of all parameters of a block, by their names.
func valuesOf(name string, list []api.Param) map[string]int64 {
	d, _ := block.Find(name)
	values, _ := block.Params(name, list)
	named := map[string]int64{}
	for i, b := range d.Params {
		named[b.Name] = values[i]
	}
	return named
}

func TestP29_1Definitions(t *testing.T) {
	source := rand.New(rand.NewSource(291))
	for _, name := range block.Names() {
		d, _ := block.Find(name)
		for range 1500 {
			list := randomParams(source, name)
			ports, _ := block.Inputs(name, len(d.Inputs)+source.Intn(d.Most))
			var in, inside []api.Span
			for _, port := range ports {
				s := randomSpan(source, port.Type)
				in, inside = append(in, s), append(inside, limited(s, widest(port.Type)))
			}
			want := definition(name, valuesOf(name, list), inside)
			if got, e := ranges.Block(api.Node{Block: name, Params: list}, in); got != want || e != api.OK {
				t.Fatalf("Block of %s %v over %v: %v, %d, not %v", name, list, in, got, e, want)
			}
		}
	}
}

// Of the node, the name and the inputs do not count, and params may stand in any order.
func TestP29_1Node(t *testing.T) {
	n := api.Node{Name: "NO NAME", Block: "limit", Params: params("low", 2, "high", 6), Inputs: []api.Link{{Node: "x", Point: "y", Port: 7}, {}, {}}}
	if got, e := ranges.Block(n, spans(0, 9)); got != span(2, 6) || e != api.OK {
		t.Errorf("Block: %v, %d", got, e)
	}
}

func TestP29_1Errors(t *testing.T) {
	reversed, usual := spans(2, 1), spans(1, 2)
	for i, x := range []struct {
		name   string
		params []api.Param
		in     []api.Span
		want   api.Errno
	}{
		{"", nil, usual, api.ErrUnknown}, {"Add", nil, spans(1, 2, 1, 2), api.ErrUnknown}, {"none", params("a", 1, "a", 1), nil, api.ErrUnknown}, {"limit", params("top", 1), usual, api.ErrUnknown}, {"add", params("low", 1), spans(1, 2, 1, 2), api.ErrUnknown},
		{"limit", params("high", 1, "high", 1), usual, api.ErrDuplicate}, {"ondelay", params("time", -1), usual, api.ErrRange}, {"stage", params("stages", 16), usual, api.ErrRange}, {"limit", params("high", 1, "low", 2), usual, api.ErrConflict}, {"hyst", params("off", 1000), usual, api.ErrConflict}, {"pid", params("high", -1), spans(1, 2, 1, 2, 0, 1), api.ErrConflict},
		// Those of the params come before those of the inputs.
		{"none", nil, reversed, api.ErrUnknown}, {"limit", params("top", 1), nil, api.ErrUnknown}, {"limit", params("high", 1, "high", 1), reversed, api.ErrDuplicate}, {"ondelay", params("time", -1), nil, api.ErrRange}, {"limit", params("high", 1, "low", 2), spans(1, 2, 3, 4), api.ErrConflict},
		{"add", nil, nil, api.ErrInvalid}, {"add", nil, usual, api.ErrInvalid}, {"add", nil, spans(1, 2, 1, 2, 1, 2), api.ErrInvalid}, {"neg", nil, spans(1, 2, 1, 2), api.ErrInvalid}, {"and", nil, usual, api.ErrInvalid}, {"and", nil, slices.Repeat(usual, 9), api.ErrInvalid}, {"mean", nil, slices.Repeat(usual, 9), api.ErrInvalid}, {"choose", nil, usual, api.ErrInvalid}, {"choose", nil, slices.Repeat(usual, 9), api.ErrInvalid}, {"pick", nil, spans(0, 1, 1, 2), api.ErrInvalid}, {"pid", nil, spans(1, 2, 1, 2), api.ErrInvalid}, {"add", nil, make([]api.Span, 100000), api.ErrInvalid},
		{"neg", nil, reversed, api.ErrInvalid}, {"neg", nil, spans(math.MaxInt64, math.MinInt64), api.ErrInvalid}, {"add", nil, spans(1, 2, 2, 1), api.ErrInvalid}, {"add", nil, spans(2, 1, 1, 2), api.ErrInvalid}, {"pick", nil, spans(1, 1, 1, 2, 4, 3), api.ErrInvalid}, {"choose", nil, spans(1, 1, 1, 2, 4, 3), api.ErrInvalid}, {"pid", nil, spans(1, 2, 1, 2, 1, 0), api.ErrInvalid}, {"and", nil, spans(0, 1, 9, 8), api.ErrInvalid}, {"and", nil, spans(0, 1, 0, 1, 0, 1, 0, 1, 0, 1, 0, 1, 0, 1, 1, 0), api.ErrInvalid},
	} {
		if got, e := ranges.Block(api.Node{Block: x.name, Params: x.params}, x.in); got != (api.Span{}) || e != x.want {
			t.Errorf("%d: Block of %s %v over %d ranges: %v, %d, not %d", i, x.name, x.params, len(x.in), got, e, x.want)
		}
	}
}

func TestP29_1Input(t *testing.T) {
	states := func(count int) []string { return make([]string, count) }
	for i, x := range []struct {
		p    api.Point
		want api.Span
		e    api.Errno
	}{
		{api.Point{Kind: api.Analog, Low: -40000, High: 60000}, span(-40000, 60000), api.OK}, {api.Point{Kind: api.Analog, Low: 5, High: 5}, at(5), api.OK}, {api.Point{Kind: api.Analog}, at(0), api.OK}, {api.Point{Kind: api.Analog, Low: 6, High: 5}, span(0, 0), api.ErrInvalid}, {api.Point{Kind: api.Analog, Low: math.MinInt64, High: math.MaxInt64}, span(math.MinInt64, math.MaxInt64), api.OK}, {api.Point{Kind: api.Analog, Low: math.MaxInt64, High: math.MinInt64}, span(0, 0), api.ErrInvalid}, {api.Point{Kind: api.Analog, High: 9, States: states(3)}, span(0, 9), api.OK},
		{api.Point{Kind: api.Binary}, span(0, 1), api.OK}, {api.Point{Kind: api.Binary, Low: 6, High: 5, States: states(4)}, span(0, 1), api.OK}, {api.Point{Name: "X", Kind: api.Binary, Role: 9}, span(0, 1), api.OK},
		{api.Point{Kind: api.Multi, States: states(1)}, at(1), api.OK}, {api.Point{Kind: api.Multi, States: states(16), Low: 6, High: 5}, span(1, 16), api.OK}, {api.Point{Kind: api.Multi, States: states(40)}, span(1, 40), api.OK}, {api.Point{Kind: api.Multi}, span(0, 0), api.ErrInvalid}, {api.Point{Kind: api.Multi, States: []string{}}, span(0, 0), api.ErrInvalid},
		{api.Point{}, span(0, 0), api.ErrType}, {api.Point{Kind: api.Null, Low: 6, High: 5}, span(0, 0), api.ErrType}, {api.Point{Kind: 4, High: 5}, span(0, 0), api.ErrType}, {api.Point{Kind: -1, States: states(2)}, span(0, 0), api.ErrType}, {api.Point{Kind: math.MaxInt}, span(0, 0), api.ErrType},
	} {
		if got, e := ranges.Input(x.p); got != x.want || e != x.e {
			t.Errorf("%d: Input: %v, %d, not %v, %d", i, got, e, x.want, x.e)
		}
	}
}
