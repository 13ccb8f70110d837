package ranges_test

import (
	"math"
	"reflect"
	"slices"
	"strconv"
	"testing"

	"plenum/api"
	"plenum/ranges"
)

// analog, binary and multi make values.
func analog(n int64) api.Value { return api.Value{Kind: api.Analog, N: n} }
func binary(n int64) api.Value { return api.Value{Kind: api.Binary, N: n} }
func multi(n int64) api.Value  { return api.Value{Kind: api.Multi, N: n} }

// fromNode, fromPoint and fromConst make links, and delayed makes one delayed.
func fromNode(name string) api.Link  { return api.Link{Node: name} }
func fromPoint(name string) api.Link { return api.Link{Point: name} }
func fromConst(v api.Value) api.Link { return api.Link{Const: v} }
func delayed(l api.Link, v api.Value) api.Link {
	l.Delayed, l.Initial = true, v
	return l
}

// node makes a node without params, and with gives params to one.
func node(name, block string, inputs ...api.Link) api.Node {
	return api.Node{Name: name, Block: block, Inputs: inputs}
}
func with(n api.Node, words ...any) api.Node {
	n.Params = params(words...)
	return n
}

// drive makes a drive.
func drive(point string, from api.Link) api.Drive {
	return api.Drive{Point: point, Level: 10, From: from}
}

// program makes a program of nodes.
func program(nodes ...api.Node) api.Program {
	return api.Program{Name: "p", Period: 1, Nodes: nodes}
}

// points are those of the examples: three that are read, and some that can be commanded.
func points() []api.Point {
	return []api.Point{
		{Name: "zone", Kind: api.Analog, Role: api.Input, Low: -40000, High: 60000},
		{Name: "button", Kind: api.Binary, Role: api.Input},
		{Name: "season", Kind: api.Multi, Role: api.Input, States: []string{"summer", "winter", "between"}},
		{Name: "valve", Kind: api.Analog, Role: api.Output, Low: 0, High: 50000, Default: analog(0)},
		{Name: "flap", Kind: api.Analog, Role: api.Output, Low: -1000, High: 1000, Default: analog(0)},
		{Name: "fan", Kind: api.Binary, Role: api.Output, Default: binary(0)},
		{Name: "lamp", Kind: api.Binary, Role: api.Held, Default: binary(0)},
		{Name: "speed", Kind: api.Multi, Role: api.Output, States: []string{"off", "low", "high"}, Default: multi(1)},
	}
}

// find checks what Find returns, and that this follows.
func find(t *testing.T, p api.Program, want ...api.Span) {
	t.Helper()
	got, e := ranges.Find(p, points())
	if e != api.OK || !slices.Equal(got, want) {
		t.Errorf("Find of %v: %v, %d, not %v", p, got, e, want)
	}
	if n, e := ranges.Check(p, points(), got); e != api.OK || n != len(want) {
		t.Errorf("Check of %v: %d, %d", p, n, e)
	}
}

func TestP29_2Find(t *testing.T) {
	n := node("n", "min", delayed(fromNode("n"), analog(0)), fromPoint("zone"))
	find(t, program())
	find(t, program(n), span(-most, 60000))
	find(t, program(with(node("m", "limit", fromNode("n")), "high", 70000, "low", -5000), n), span(-5000, 60000), span(-most, 60000))
	find(t, program(node("n", "or", fromPoint("button"), fromConst(binary(1)))), at(1))
	find(t, program(node("n", "or", fromPoint("button"), fromConst(binary(0)))), span(0, 1))
	// All kinds of points, constants and outputs.
	find(t, program(node("n", "choose", fromPoint("season"), fromConst(analog(5)), fromPoint("zone"))), span(-40000, 60000))
	find(t, program(node("n", "choose", fromConst(multi(1)), fromConst(analog(5)), fromPoint("zone"))), at(5))
	find(t, program(node("n", "pick", fromPoint("button"), fromPoint("season"), fromConst(multi(9)))), span(1, 9))
	find(t, program(node("n", "pick", delayed(fromNode("n"), binary(0)), fromConst(binary(1)), fromConst(binary(0)))), span(0, 1))
	find(t, program(with(node("n", "stage", fromPoint("zone")), "stages", 4)), span(1, 5))
	// Delayed links contribute their initial values.
	find(t, program(node("n", "neg", delayed(fromPoint("zone"), analog(70000)))), span(-70000, 40000))
	find(t, program(node("n", "neg", delayed(fromPoint("zone"), analog(-70000)))), span(-60000, 70000))
	find(t, program(node("n", "neg", delayed(fromPoint("zone"), analog(7)))), span(-60000, 40000))
	find(t, program(node("n", "neg", delayed(fromConst(analog(5)), analog(9)))), span(-9, -5))
	find(t, program(node("n", "not", delayed(fromConst(binary(1)), binary(0)))), span(0, 1))
	find(t, program(node("n", "not", delayed(fromConst(binary(1)), binary(1)))), at(0))
	find(t, program(node("n", "or", delayed(fromNode("n"), binary(0)), fromConst(binary(0)))), span(0, 1))
	find(t, program(node("n", "and", delayed(fromNode("n"), binary(1)), fromConst(binary(0)))), at(0))
	find(t, program(node("a", "neg", delayed(fromNode("b"), analog(3))), node("b", "limit", fromConst(analog(1)))), span(-3, -1), at(1))
}

// A range is taken from the same round, where its node stands before in the order, and rounds end behind MaxRounds.
func TestP29_2Rounds(t *testing.T) {
	half := func(name, from string) api.Node {
		return node(name, "div", delayed(fromNode(from), analog(0)), fromConst(analog(2000)))
	}
	after := func(halvings int) api.Span {
		n := int64(most)
		for range halvings {
			n = (n + 1) / 2
		}
		return span(-n, n)
	}
	find(t, program(half("n", "n")), after(16))
	// The node that is evaluated first takes what the other one had in the round before.
	find(t, program(half("a", "b"), half("b", "a")), after(31), after(32))
	find(t, program(half("a", "b"), half("b", "c"), half("c", "a")), after(23), after(24), after(24))
	find(t, program(node("y", "limit", fromNode("x")), half("x", "y")), after(16), after(16))
	// Ranges that stay the same earlier are found in fewer rounds, so long chains need no more.
	chain := program(with(node("n0", "limit", delayed(fromNode("n19"), analog(0))), "high", 8, "low", -8))
	for i := 1; i < 20; i++ {
		chain.Nodes = append(chain.Nodes, node("n"+strconv.Itoa(i), "limit", delayed(fromNode("n"+strconv.Itoa(i-1)), analog(0))))
	}
	find(t, chain, slices.Repeat(spans(-8, 8), 20)...)
	// Backwards, each round reaches one node more.
	slices.Reverse(chain.Nodes)
	find(t, chain, append(slices.Repeat(spans(-most, most), 4), slices.Repeat(spans(-8, 8), 16)...)...)
}

// Of several points with one name the first one counts.
func TestP29_2Points(t *testing.T) {
	list := append(points(), api.Point{Name: "zone", Kind: api.Analog, Role: api.Input, Low: -7, High: 7}, api.Point{Name: "flap", Kind: api.Analog, Role: api.Output, Low: -most, High: most, Default: analog(0)})
	p := program(node("n", "neg", fromPoint("zone")))
	p.Drives = []api.Drive{drive("flap", fromNode("n"))}
	got, e := ranges.Find(p, list)
	if e != api.OK || !slices.Equal(got, spans(-60000, 40000)) {
		t.Errorf("Find: %v, %d", got, e)
	}
	if outside, e := ranges.Outside(p, list, got); e != api.OK || !slices.Equal(outside, []int{0}) {
		t.Errorf("Outside: %v, %d", outside, e)
	}
}

func TestP29_2Check(t *testing.T) {
	p := program(
		node("sum", "add", fromPoint("zone"), delayed(fromNode("half"), analog(500))),
		with(node("half", "limit", fromNode("sum")), "high", 1000, "low", -1000),
		node("warm", "above", fromNode("half"), fromConst(analog(1000))),
		node("stay", "max", delayed(fromNode("stay"), analog(5)), fromConst(analog(3))),
	)
	for i, x := range []struct {
		list []api.Span
		want int
		e    api.Errno
	}{
		{spans(-41000, 61000, -1000, 1000, 0, 0, 3, 5), 4, api.OK}, {spans(-most, most, -most, most, 0, 1, -most, most), 0, api.OK},
		{spans(-41000, 61000, -1000, 1000, 0, 0, 3, 3), 3, api.ErrConflict}, {spans(-41000, 61000, -1000, 1000, 0, 0, 3, 4), 3, api.ErrConflict}, {spans(-41000, 61000, -1000, 1000, 0, 0, 4, 5), 0, api.OK}, {spans(-41000, 61000, -1000, 1000, 0, 0, 6, 7), 3, api.ErrConflict}, {spans(-41000, 61000, -1000, 1000, 0, 0, 5, 5), 0, api.OK}, {spans(-41000, 61000, -1000, 1000, 0, 0, 5, 9), 0, api.OK}, {spans(-41000, 61000, -1000, 1000, 0, 0, -3, 5), 0, api.OK},
		{spans(-41000, 61000, -1000, 1000, 1, 1, 3, 5), 2, api.ErrConflict}, {spans(-41000, 61000, -1000, 1000, -9, 9, 3, 5), 0, api.OK}, {spans(-41000, 61000, -1001, 1001, 0, 0, 3, 5), 0, api.ErrConflict}, {spans(-41001, 61001, -1001, 1001, 0, 0, 3, 5), 2, api.ErrConflict}, {spans(-41001, 61001, -1001, 1001, 0, 1, 3, 5), 0, api.OK},
		{spans(-41000, 60999, -1000, 1000, 0, 0, 3, 5), 0, api.ErrConflict}, {spans(-40999, 61000, -1000, 1000, 0, 0, 3, 5), 0, api.ErrConflict}, {spans(-41000, 61000, -1000, 999, 0, 0, 3, 5), 1, api.ErrConflict}, {spans(-41000, 61000, -999, 1000, 0, 0, 3, 5), 1, api.ErrConflict}, {spans(-41000, 61000, -999, 1000, 1, 1, 3, 3), 1, api.ErrConflict}, {spans(0, 0, 0, 0, 0, 0, 0, 0), 0, api.ErrConflict},
		{spans(math.MinInt64, math.MaxInt64, math.MinInt64, math.MaxInt64, 0, math.MaxInt64, math.MinInt64, math.MaxInt64), 0, api.OK},
	} {
		if x.e == api.OK {
			x.want = 4
		}
		before := slices.Clone(x.list)
		if n, e := ranges.Check(p, points(), x.list); n != x.want || e != x.e {
			t.Errorf("%d: Check of %v: %d, %d, not %d, %d", i, x.list, n, e, x.want, x.e)
		}
		if !slices.Equal(before, x.list) {
			t.Errorf("%d: Check has changed the list", i)
		}
	}
	if n, e := ranges.Check(program(), points(), nil); n != 0 || e != api.OK {
		t.Errorf("Check of no nodes: %d, %d", n, e)
	}
}

func TestP29_3Drives(t *testing.T) {
	p := program(node("n", "neg", fromPoint("zone")), node("on", "above", fromPoint("zone"), fromConst(analog(0))), node("s", "pick", fromPoint("button"), fromPoint("season"), fromConst(multi(5))))
	p.Drives = []api.Drive{drive("valve", fromNode("n")), drive("flap", delayed(fromNode("n"), analog(700))), drive("fan", fromNode("on")), drive("lamp", delayed(fromPoint("button"), binary(1))), drive("speed", fromConst(multi(4)))}
	list := spans(-500, 600, 1, 1, 1, 3)
	got, e := ranges.Drives(p, points(), list)
	if e != api.OK || !slices.Equal(got, spans(-500, 600, -500, 700, 1, 1, 0, 1, 4, 4)) {
		t.Errorf("Drives: %v, %d", got, e)
	}
	if got, e := ranges.Outside(p, points(), list); e != api.OK || !slices.Equal(got, []int{0, 4}) {
		t.Errorf("Outside: %v, %d", got, e)
	}
	// The ranges need not follow from each other, nor lie within the limits of numbers.
	list[0], list[1] = span(math.MinInt64, 7), span(-1, math.MaxInt64)
	if got, e := ranges.Drives(p, points(), list); e != api.OK || !slices.Equal(got, spans(math.MinInt64, 7, math.MinInt64, 700, -1, math.MaxInt64, 0, 1, 4, 4)) {
		t.Errorf("Drives: %v, %d", got, e)
	}
	if got, e := ranges.Outside(p, points(), list); e != api.OK || !slices.Equal(got, []int{0, 1, 2, 4}) {
		t.Errorf("Outside: %v, %d", got, e)
	}
	if got, e := ranges.Drives(program(), points(), nil); e != api.OK || len(got) != 0 {
		t.Errorf("Drives of none: %v, %d", got, e)
	}
}

func TestP29_3Outside(t *testing.T) {
	for i, x := range []struct {
		point string
		from  api.Link
		s     api.Span
		isOut bool
	}{
		{"valve", fromNode("n"), span(0, 50000), false}, {"valve", fromNode("n"), span(1, 49999), false}, {"valve", fromNode("n"), span(-1, 50000), true}, {"valve", fromNode("n"), span(0, 50001), true}, {"valve", fromNode("n"), span(-5, -5), true}, {"valve", fromNode("n"), span(60000, 70000), true},
		{"valve", delayed(fromNode("n"), analog(0)), span(0, 50000), false}, {"valve", delayed(fromNode("n"), analog(-1)), span(0, 50000), true}, {"valve", delayed(fromNode("n"), analog(50001)), span(0, 50000), true},
		{"valve", fromPoint("valve"), span(0, 0), false}, {"valve", fromPoint("zone"), span(0, 0), true}, {"valve", fromPoint("flap"), span(0, 0), true}, {"flap", fromPoint("flap"), span(0, 0), false}, {"valve", delayed(fromPoint("valve"), analog(-1)), span(0, 0), true},
		{"valve", fromConst(analog(50000)), span(0, 0), false}, {"valve", fromConst(analog(50001)), span(0, 0), true}, {"valve", fromConst(analog(-1)), span(0, 0), true}, {"valve", delayed(fromConst(analog(1)), analog(-1)), span(0, 0), true},
		{"fan", fromNode("n"), span(0, 1), false}, {"fan", fromNode("n"), span(0, 2), true}, {"fan", fromPoint("button"), span(0, 0), false}, {"fan", fromConst(binary(1)), span(0, 0), false},
		{"speed", fromNode("n"), span(1, 3), false}, {"speed", fromNode("n"), span(0, 3), true}, {"speed", fromNode("n"), span(1, 4), true}, {"speed", fromPoint("season"), span(0, 0), false}, {"speed", fromConst(multi(3)), span(0, 0), false}, {"speed", fromConst(multi(4)), span(0, 0), true},
	} {
		p := program(node("n", "neg", fromPoint("zone")))
		p.Drives = []api.Drive{drive(x.point, x.from)}
		var want []int
		if x.isOut {
			want = []int{0}
		}
		if got, e := ranges.Outside(p, points(), []api.Span{x.s}); e != api.OK || !slices.Equal(got, want) {
			t.Errorf("%d: Outside of %v: %v, %d, not %v", i, x, got, e, want)
		}
	}
}

// call is what the functions for programs are called with.
type call struct {
	p      api.Program
	points []api.Point
	list   []api.Span
}

// sample is a call without an error.
func sample() call {
	p := program(node("n", "neg", fromPoint("zone")), node("m", "mean", fromNode("n"), delayed(fromNode("m"), analog(0)), fromPoint("zone")), with(node("late", "ondelay", fromPoint("button")), "time", 5))
	p.Drives = []api.Drive{drive("valve", fromNode("m")), drive("fan", fromNode("late"))}
	return call{p, points(), spans(-60000, 40000, -most, most, 0, 1)}
}

// wrong is a change of a call, with the error of Find, and that of the functions with a list.
type wrong struct {
	find, list api.Errno
	change     func(c *call)
}

// steps are changes of calls, in the order in which their errors are found.
func steps() [][]wrong {
	check := func(e api.Errno, change func(c *call)) wrong { return wrong{e, e, change} }
	input := func(e api.Errno, x api.Point) wrong {
		return check(e, func(c *call) { c.points = append(c.points, x) })
	}
	list := func(change func(c *call)) wrong { return wrong{api.OK, api.ErrInvalid, change} }
	return [][]wrong{
		{
			check(api.ErrTooMany, func(c *call) { c.p.Drives = append(c.p.Drives, make([]api.Drive, api.MaxPoints)...) }), check(api.ErrName, func(c *call) { c.p.Name = "P" }), check(api.ErrInvalid, func(c *call) { c.p.Nodes[0].Inputs[0].Port = 1 }), check(api.ErrRange, func(c *call) { c.p.Period = 0 }), check(api.ErrDuplicate, func(c *call) { c.p.Nodes[2].Name = "n" }), check(api.ErrUnknown, func(c *call) { c.p.Nodes[2].Inputs[0].Point = "none" }), check(api.ErrUnknown, func(c *call) { c.p.Nodes[0].Block = "none" }),
			check(api.ErrInvalid, func(c *call) { c.p.Nodes[0].Inputs = nil }), check(api.ErrRange, func(c *call) { c.p.Nodes[2] = with(c.p.Nodes[2], "time", -1) }), check(api.ErrType, func(c *call) { c.p.Drives[1].Point = "button" }),
		},
		{
			input(api.ErrType, api.Point{Name: "zone"}), input(api.ErrType, api.Point{Name: "new", Kind: 4}), input(api.ErrInvalid, api.Point{Name: "new", Kind: api.Analog, Low: 5, High: 4}), input(api.ErrInvalid, api.Point{Kind: api.Multi}),
			check(api.ErrType, func(c *call) { c.points[0].Kind = 7 }), check(api.ErrInvalid, func(c *call) { c.points[0].High = -40001 }), check(api.ErrInvalid, func(c *call) { c.points[2].States = nil }),
			// The first point with an error counts.
			check(api.ErrInvalid, func(c *call) { c.points[0].High, c.points[1].Kind = -40001, 0 }), check(api.ErrType, func(c *call) { c.points[1].Kind, c.points[2].States = 0, nil }),
		},
		{
			check(api.ErrCycle, func(c *call) { c.p.Nodes[1].Inputs[1] = fromNode("m") }), check(api.ErrCycle, func(c *call) { c.p.Nodes[0].Inputs[0] = fromNode("m") }),
		},
		{
			list(func(c *call) { c.list = nil }), list(func(c *call) { c.list = c.list[:2] }), list(func(c *call) { c.list = append(c.list, at(0)) }), list(func(c *call) { c.list = make([]api.Span, 100000) }),
			list(func(c *call) { c.list[0] = span(1, 0) }), list(func(c *call) { c.list[2] = span(math.MaxInt64, math.MinInt64) }), list(func(c *call) { c.list[0], c.list[1] = at(0), span(2, 1) }),
		},
	}
}

// changed returns the sample with changes.
func changed(changes ...func(c *call)) call {
	c := sample()
	for _, change := range changes {
		change(&c)
	}
	return c
}

// expect calls the functions for programs and compares their errors.
func expect(t *testing.T, c call, find, list api.Errno, place string) {
	t.Helper()
	got, e := ranges.Find(c.p, c.points)
	if e != find || e != api.OK && len(got) > 0 {
		t.Errorf("%s: Find: %v, %d, not %d", place, got, e, find)
	}
	n, e := ranges.Check(c.p, c.points, c.list)
	if e != list || e != api.OK && n != 0 {
		t.Errorf("%s: Check: %d, %d, not %d", place, n, e, list)
	}
	got, e = ranges.Drives(c.p, c.points, c.list)
	if e != list || e != api.OK && len(got) > 0 {
		t.Errorf("%s: Drives: %v, %d, not %d", place, got, e, list)
	}
	outside, e := ranges.Outside(c.p, c.points, c.list)
	if e != list || e != api.OK && len(outside) > 0 {
		t.Errorf("%s: Outside: %v, %d, not %d", place, outside, e, list)
	}
}

func TestP29Errors(t *testing.T) {
	expect(t, sample(), api.OK, api.OK, "the sample")
	for i, list := range steps() {
		for k, w := range list {
			place := strconv.Itoa(i) + "/" + strconv.Itoa(k)
			c := changed(w.change)
			expect(t, c, w.find, w.list, place)
			if !reflect.DeepEqual(c, changed(w.change)) {
				t.Errorf("%s: the arguments were changed", place)
			}
		}
	}
}

// An error that is found earlier comes first.
func TestP29FirstErrors(t *testing.T) {
	all := steps()
	for i, list := range all {
		for k, w := range list {
			for m, later := range all[i+1:] {
				for n, x := range later {
					find := w.find
					if find == api.OK {
						find = x.find
					}
					place := strconv.Itoa(i) + "/" + strconv.Itoa(k) + " and " + strconv.Itoa(i+1+m) + "/" + strconv.Itoa(n)
					if !canBeMade(x.change, w.change) {
						continue
					}
					expect(t, changed(x.change, w.change), find, w.list, place)
				}
			}
		}
	}
}

// canBeMade reports whether changes can be made, one after the other. One may need what another one has removed.
func canBeMade(changes ...func(c *call)) (made bool) {
	defer func() { made = recover() == nil }()
	changed(changes...)
	return
}

// Only Check has the error ErrConflict, and an index with it.
func TestP29_2Conflict(t *testing.T) {
	c := sample()
	c.list[1] = at(0)
	if n, e := ranges.Check(c.p, c.points, c.list); n != 1 || e != api.ErrConflict {
		t.Errorf("Check: %d, %d", n, e)
	}
	if got, e := ranges.Drives(c.p, c.points, c.list); e != api.OK || !slices.Equal(got, spans(0, 0, 0, 1)) {
		t.Errorf("Drives: %v, %d", got, e)
	}
	if got, e := ranges.Outside(c.p, c.points, c.list); e != api.OK || len(got) != 0 {
		t.Errorf("Outside: %v, %d", got, e)
	}
}
