package reach_test

import (
	"reflect"
	"slices"
	"strconv"
	"strings"
	"testing"

	"plenum/api"
	"plenum/block"
	"plenum/interp"
	"plenum/reach"
)

// analog, binary and multi make values.
func analog(n int64) api.Value { return api.Value{Kind: api.Analog, N: n} }
func binary(n int64) api.Value { return api.Value{Kind: api.Binary, N: n} }
func multi(n int64) api.Value  { return api.Value{Kind: api.Multi, N: n} }

// fromNode, fromPoint and fromConst make links, and delayed makes one delayed.
func fromNode(name string) api.Link  { return api.Link{Node: name} }
func fromPoint(name string) api.Link { return api.Link{Point: name} }
func fromConst(v api.Value) api.Link { return api.Link{Const: v} }
func delayed(l api.Link, v api.Value) api.Link {
	l.Delayed, l.Initial = true, v
	return l
}

// node makes a node without params.
func node(name, block string, inputs ...api.Link) api.Node {
	return api.Node{Name: name, Block: block, Inputs: inputs}
}

// program makes a program of nodes.
func program(nodes ...api.Node) api.Program {
	return api.Program{Name: "p", Period: 1, Nodes: nodes}
}

// wire makes a wire of a node.
func wire(name string) reach.Wire { return reach.Wire{Node: name} }

// steps returns a run whose steps are written as digits, with spaces between the steps. An empty text is the empty run.
func steps(text string) []reach.Step {
	var run []reach.Step
	for _, word := range strings.Fields(text) {
		var s reach.Step
		for _, digit := range word {
			s = append(s, digit == '1')
		}
		run = append(run, s)
	}
	return run
}

// text returns a run as digits.
func text(run []reach.Step) string {
	var words []string
	for _, s := range run {
		word := ""
		for _, on := range s {
			word += map[bool]string{true: "1", false: "0"}[on]
		}
		words = append(words, word)
	}
	return strings.Join(words, " ")
}

// ever and together check the run that Ever or Together returns, where - is none.
func ever(t *testing.T, p api.Program, a, want string) {
	t.Helper()
	run, e := reach.Ever(p, wire(a))
	compare(t, "Ever of "+a, run, e, want)
}
func together(t *testing.T, p api.Program, a, b, want string) {
	t.Helper()
	run, e := reach.Together(p, wire(a), wire(b))
	compare(t, "Together of "+a+" and "+b, run, e, want)
}

// compare compares a run and an error with what is wanted.
func compare(t *testing.T, place string, run []reach.Step, e api.Errno, want string) {
	t.Helper()
	isNone := want == "-" && e == api.ErrNone && len(run) == 0
	if !isNone && (text(run) != want || e != api.OK) {
		t.Errorf("%s: %q, %d, not %q", place, text(run), e, want)
	}
}

// count checks the number of states.
func count(t *testing.T, p api.Program, want int) {
	t.Helper()
	if n, e := reach.Count(p); n != want || e != api.OK {
		t.Errorf("Count of %v: %d, %d, not %d", p, n, e, want)
	}
}

// is checks whether runs are abstract runs.
func is(t *testing.T, p api.Program, want bool, runs ...string) {
	t.Helper()
	for _, run := range runs {
		if got, e := reach.Is(p, steps(run)); got != want || e != api.OK {
			t.Errorf("Is of %q: %v, %d, not %v", run, got, e, want)
		}
	}
}

// fitting returns as many constants as a block needs at least.
func fitting(name string) []api.Link {
	d, _ := block.Find(name)
	var list []api.Link
	for _, port := range d.Inputs {
		v := map[string]api.Value{"binary": binary(1), "multi": multi(1)}[port.Type]
		if v == (api.Value{}) {
			v = analog(5)
		}
		list = append(list, fromConst(v))
	}
	return list
}

func TestP30_1Wires(t *testing.T) {
	p := program()
	var want []reach.Wire
	for i, name := range block.Names() {
		n := "n" + strconv.Itoa(i)
		p.Nodes = append(p.Nodes, node(n, name, fitting(name)...))
		switch name {
		case "above", "and", "below", "edge", "hyst", "latch", "minrun", "not", "offdelay", "ondelay", "or", "pulse", "xor":
			want = append(want, wire(n))
		}
	}
	if got, e := reach.Wires(p); e != api.OK || !slices.Equal(got, want) || len(got) != 13 {
		t.Errorf("Wires: %v, %d, not %v", got, e, want)
	}
	// They stand in the order of the nodes, not in that of the evaluation.
	slices.Reverse(p.Nodes)
	slices.Reverse(want)
	if got, e := reach.Wires(p); e != api.OK || !slices.Equal(got, want) {
		t.Errorf("Wires: %v, %d, not %v", got, e, want)
	}
	chain := program(node("c", "not", fromNode("b")), node("b", "not", fromNode("a")), node("a", "not", fromPoint("x")))
	if got, e := reach.Wires(chain); e != api.OK || !slices.Equal(got, []reach.Wire{wire("c"), wire("b"), wire("a")}) {
		t.Errorf("Wires: %v, %d", got, e)
	}
	for _, p := range []api.Program{program(), program(node("a", "pick", fitting("pick")...)), program(node("a", "choose", fromConst(multi(1)), fromConst(binary(1))))} {
		if got, e := reach.Wires(p); e != api.OK || len(got) != 0 {
			t.Errorf("Wires of %v: %v, %d", p, got, e)
		}
		count(t, p, 1)
		// Its steps have no wires.
		for i, run := range [][]reach.Step{nil, {nil}, {{}, nil, {}}} {
			if got, e := reach.Is(p, run); !got || e != api.OK {
				t.Errorf("Is of %d: %v, %d", i, got, e)
			}
		}
		is(t, p, false, "0", "1")
	}
}

// The examples of the document.
func TestP30_2Examples(t *testing.T) {
	p := program(node("a", "latch", fromPoint("on"), fromPoint("stop")), node("b", "not", fromNode("a")))
	count(t, p, 2)
	together(t, p, "a", "b", "-")
	ever(t, p, "a", "10")
	ever(t, p, "b", "01")
	is(t, p, true, "", "10", "01", "10 01 10", "01 01 10 10")
	is(t, p, false, "00", "11", "10 11", "1", "100", "10 1", "10 10 010")
	p = program(node("n", "or", delayed(fromNode("n"), binary(0)), delayed(fromNode("n"), binary(0))))
	count(t, p, 1)
	ever(t, p, "n", "-")
	is(t, p, true, "", "0", "0 0 0")
	is(t, p, false, "1", "0 1")
}

// Each exact block does what its definition says.
func TestP30_2Gates(t *testing.T) {
	x, y := fromPoint("x"), fromPoint("y")
	// seen is the wire that shows what x is, and other the one that shows what y is.
	seen, other := node("seen", "and", x, x), node("other", "or", y, y)
	for name, want := range map[string]string{"and": "000 010 100 111", "or": "000 011 101 111", "xor": "000 011 101 110"} {
		p := program(seen, other, node("n", name, x, y))
		count(t, p, 1)
		for i := range 8 {
			s := strconv.FormatInt(int64(8+i), 2)[1:]
			is(t, p, slices.Contains(strings.Fields(want), s), s, s+" "+s)
		}
		ever(t, p, "n", strings.Fields(want)[slices.IndexFunc(strings.Fields(want), func(s string) bool { return s[2] == '1' })])
	}
	p := program(seen, node("n", "not", x))
	is(t, p, true, "01", "10", "01 10")
	is(t, p, false, "00", "11")
	many := program(node("n", "and", x, x, x, x, x, x, x, fromConst(binary(0))), node("m", "or", x, x, x, x, x, x, x, fromConst(binary(1))), seen)
	is(t, many, true, "010", "011")
	is(t, many, false, "000", "110", "111")

	p = program(seen, other, node("n", "latch", x, y))
	count(t, p, 2)
	is(t, p, true, "000", "010", "101", "110", "101 001", "101 001 101 001", "101 010 000", "101 110 000 101", "110 000")
	is(t, p, false, "001", "011", "100", "111", "101 000", "101 011", "101 111", "101 010 001", "110 001")
	ever(t, p, "n", "101")

	p = program(seen, node("n", "edge", x))
	count(t, p, 2)
	is(t, p, true, "00", "11", "11 10", "11 10 10 00", "11 00 11", "00 11 10")
	is(t, p, false, "01", "10", "11 11", "11 01", "11 00 10", "00 10")

	p = program(seen, node("n", "ondelay", x))
	count(t, p, 1)
	is(t, p, true, "00", "10", "11", "11 10 11 00")
	is(t, p, false, "01", "11 01")

	p = program(seen, node("n", "offdelay", x))
	count(t, p, 1)
	is(t, p, true, "00", "01", "11", "11 00 01 11")
	is(t, p, false, "10", "11 10")
}

// All other binary wires are free, whatever their inputs are.
func TestP30_2Free(t *testing.T) {
	for _, name := range []string{"above", "below", "hyst", "minrun", "pulse"} {
		d, _ := block.Find(name)
		p := program(node("n", name, slices.Repeat([]api.Link{fromConst(map[string]api.Value{"U": analog(5), "binary": binary(0)}[d.Inputs[0].Type])}, len(d.Inputs))...), node("m", "not", fromNode("n")))
		count(t, p, 1)
		is(t, p, true, "01", "10", "01 10 10 01")
		is(t, p, false, "00", "11")
		ever(t, p, "n", "10")
		together(t, p, "n", "m", "-")
	}
}

// A point gives one choice to all its links, a link from another node one to itself.
func TestP30_2Choices(t *testing.T) {
	off := fromConst(binary(0))
	p := program(node("a", "or", fromPoint("x"), off), node("b", "or", fromPoint("x"), off), node("c", "or", fromPoint("y"), off))
	is(t, p, true, "000", "110", "001", "111")
	is(t, p, false, "100", "010", "011", "101")
	ever(t, p, "a", "110")
	together(t, p, "c", "a", "111")
	other := node("n", "pick", fromPoint("x"), fromPoint("x"), fromPoint("x"))
	p = program(other, node("a", "or", fromNode("n"), off), node("b", "or", fromNode("n"), off))
	is(t, p, true, "00", "01", "10", "11", "01 10")
	p = program(other, node("a", "xor", fromNode("n"), fromNode("n")))
	is(t, p, true, "0", "1")
	// A wire is the same for all, and constants are on if their N is 1.
	p = program(node("w", "hyst", fromPoint("x")), node("a", "xor", fromNode("w"), fromNode("w")))
	is(t, p, true, "00", "10")
	is(t, p, false, "01", "11")
	p = program(node("a", "or", fromConst(analog(1)), fromConst(multi(2))), node("b", "or", fromConst(analog(1000)), fromConst(binary(0))), node("c", "or", fromConst(multi(1)), fromConst(analog(-1))))
	is(t, p, true, "101", "101 101")
	ever(t, p, "b", "-")
	// Links of other nodes and of drives do not count.
	p = program(node("a", "not", fromPoint("x")), node("m", "minrun", delayed(fromPoint("z"), binary(1))))
	p.Drives = []api.Drive{{Point: "q", Level: 10, From: delayed(fromNode("a"), binary(1))}, {Point: "r", Level: 10, From: fromPoint("v")}}
	count(t, p, 1)
	is(t, p, true, "00 11 01 10")
}

func TestP30_2Delayed(t *testing.T) {
	off := fromConst(binary(0))
	x := fromPoint("x")
	seen := node("seen", "or", x, off)
	// A point, a wire behind, another node, a constant.
	p := program(seen, node("n", "or", delayed(x, binary(1)), off))
	count(t, p, 2)
	is(t, p, true, "01", "11", "01 00", "11 01", "11 11 01 00 10")
	is(t, p, false, "00", "10", "01 01", "11 00", "11 11 01 01")
	p = program(node("n", "or", delayed(fromNode("late"), binary(0)), off), node("late", "or", x, off))
	is(t, p, true, "00", "01", "01 10", "01 11 11 10 00", "00 01 10")
	is(t, p, false, "10", "11", "00 10", "01 00")
	p = program(node("sum", "pick", x, x, x), node("n", "or", delayed(fromNode("sum"), binary(1)), off))
	count(t, p, 2)
	is(t, p, true, "1", "1 0", "1 1 0")
	is(t, p, false, "0", "0 1")
	p = program(node("n", "or", delayed(fromConst(binary(1)), binary(0)), off))
	count(t, p, 2)
	is(t, p, true, "0", "0 1", "0 1 1")
	is(t, p, false, "1", "0 0", "0 1 0")
	ever(t, p, "n", "0 1")
	// N of Initial is 1, whatever its kind is.
	p = program(node("n", "or", delayed(off, analog(1)), off), node("m", "or", delayed(off, multi(2)), off), node("k", "or", delayed(off, multi(1)), off))
	count(t, p, 2)
	is(t, p, true, "101", "101 000")
	// A chain of delayed links reaches its end later.
	p = program(node("d", "or", delayed(fromNode("c"), binary(0)), off), node("c", "or", delayed(fromNode("b"), binary(0)), off), node("b", "or", delayed(fromNode("a"), binary(0)), off), node("a", "or", x, off))
	count(t, p, 8)
	ever(t, p, "d", "0001 0010 0100 1000")
	together(t, p, "a", "d", "0001 0010 0100 1001")
	together(t, p, "b", "d", "0001 0010 0101 1010")
	// A latch that is set by another one's falling edge.
	p = program(node("a", "latch", fromPoint("on"), fromPoint("stop")), node("b", "not", fromNode("a")), node("c", "and", fromNode("b"), delayed(fromNode("a"), binary(0))))
	ever(t, p, "c", "100 011")
	together(t, p, "a", "c", "-")
	count(t, p, 2)
}

// Runs are compared by their steps, whatever the states are between them.
func TestP30_2Least(t *testing.T) {
	off := fromConst(binary(0))
	// n is on if x and y were on in different scans before, which two states tell apart.
	p := program(
		node("x", "latch", fromPoint("a"), off), node("y", "latch", fromPoint("b"), off), node("first", "edge", fromNode("x")),
		node("n", "and", fromNode("x"), fromNode("y"), delayed(fromNode("y"), binary(0)), fromNode("first")),
	)
	ever(t, p, "n", "0100 1111")
	// Hidden states: what the delayed point was does not show in the steps.
	p = program(node("h", "or", delayed(fromPoint("a"), binary(0)), fromConst(binary(1))), node("k", "and", delayed(fromPoint("a"), binary(0)), fromPoint("b")), node("n", "and", fromNode("k"), delayed(fromNode("k"), binary(0))))
	// Of two states behind the same step the one in which a was on leads to the lesser step.
	q := program(node("m", "not", delayed(fromPoint("a"), binary(0))), node("t", "or", delayed(fromConst(binary(1)), binary(0)), off))
	ever(t, q, "t", "10 01")
	ever(t, p, "n", "100 110 111")
	ever(t, p, "k", "100 110")
	is(t, p, true, "100 100 110 111 100 100")
	is(t, p, false, "100 101", "110", "100 111", "000")
}

// A program may have as many wires as nodes.
func TestP30_2Many(t *testing.T) {
	p := program(node("n0", "and", fromPoint("x"), fromPoint("x")))
	on, off := "1", "0"
	for i := 1; i < api.MaxNodes; i++ {
		p.Nodes = append(p.Nodes, node("n"+strconv.Itoa(i), "not", fromNode("n"+strconv.Itoa(i-1))))
		on, off = on+strconv.Itoa((i+1)%2), off+strconv.Itoa(i%2)
	}
	ever(t, p, "n0", on)
	ever(t, p, "n62", on)
	ever(t, p, "n63", off)
	ever(t, p, "n1", off)
	together(t, p, "n0", "n63", "-")
	together(t, p, "n1", "n63", off)
	is(t, p, true, on+" "+off, off+" "+off)
	is(t, p, false, on+"0", on[1:], off[:63]+"0", "1"+off[1:])
}

// alternatives returns a program with so many free choices and bits.
func alternatives(free, bits int) api.Program {
	p := program()
	for i := range free {
		p.Nodes = append(p.Nodes, node("f"+strconv.Itoa(i), "hyst", fromConst(analog(0))))
	}
	for i := range bits {
		p.Nodes = append(p.Nodes, node("b"+strconv.Itoa(i), "edge", fromConst(binary(0))))
	}
	return p
}

// bounded checks which functions find that a program is too large.
func bounded(t *testing.T, place string, p api.Program, isTooLarge bool) {
	t.Helper()
	want := map[bool]api.Errno{false: api.OK, true: api.ErrTooMany}[isTooLarge]
	if l, e := reach.Wires(p); e != api.OK || len(l) == 0 {
		t.Errorf("%s: Wires: %v, %d", place, l, e)
	}
	if n, e := reach.Count(p); e != want || (n == 0) != isTooLarge {
		t.Errorf("%s: Count: %d, %d", place, n, e)
	}
	if yes, e := reach.Is(p, nil); e != want || yes == isTooLarge {
		t.Errorf("%s: Is: %v, %d", place, yes, e)
	}
	for _, name := range []string{"none", p.Nodes[0].Name} {
		_, e := reach.Ever(p, wire(name))
		_, f := reach.Together(p, wire(name), wire(name))
		if isTooLarge != (e == api.ErrTooMany) || e != f || name == "none" && !isTooLarge && e != api.ErrUnknown {
			t.Errorf("%s: Ever of %s: %d, Together: %d", place, name, e, f)
		}
	}
}

func TestP30TooMany(t *testing.T) {
	if reach.MaxFree != 10 || reach.MaxBits != 10 {
		t.Errorf("the limits: %d, %d", reach.MaxFree, reach.MaxBits)
	}
	bounded(t, "10 choices", alternatives(10, 1), false)
	bounded(t, "11 choices", alternatives(11, 1), true)
	bounded(t, "10 bits", alternatives(1, 10), false)
	bounded(t, "11 bits", alternatives(1, 11), true)
	bounded(t, "10 of both", alternatives(10, 10), false)
	bounded(t, "64 choices", alternatives(64, 0), true)
	bounded(t, "64 bits", alternatives(0, 64), true)
	other := node("other", "pick", fromPoint("x"), fromPoint("y"), fromPoint("z"))
	// What adds a choice, what adds a bit, and what neither.
	for i, x := range []struct {
		n    api.Node
		free int
		bits int
	}{
		{node("n", "not", fromPoint("x")), 1, 0}, {node("n", "xor", fromPoint("x"), fromPoint("y")), 2, 0}, {node("n", "xor", fromPoint("x"), fromPoint("x")), 1, 0}, {node("n", "and", fromPoint("x"), fromPoint("y"), fromPoint("x")), 2, 0}, {node("n", "or", fromPoint("x"), delayed(fromPoint("x"), binary(0))), 1, 1},
		{node("n", "not", fromNode("other")), 1, 0}, {node("n", "xor", fromNode("other"), fromNode("other")), 2, 0}, {node("n", "xor", fromNode("other"), delayed(fromNode("other"), binary(1))), 2, 1},
		{node("n", "not", fromNode("f0")), 0, 0}, {node("n", "not", delayed(fromNode("n"), binary(0))), 0, 1}, {node("n", "not", fromConst(binary(0))), 0, 0}, {node("n", "not", delayed(fromConst(binary(0)), binary(0))), 0, 1},
		{node("n", "edge", fromPoint("x")), 1, 1}, {node("n", "latch", fromPoint("x"), fromPoint("y")), 2, 1}, {node("n", "latch", fromPoint("x"), delayed(fromPoint("y"), binary(0))), 2, 2}, {node("n", "ondelay", fromNode("f0")), 1, 0}, {node("n", "offdelay", fromPoint("x")), 2, 0},
		{node("n", "pulse", fromPoint("x")), 1, 0}, {node("n", "minrun", delayed(fromPoint("x"), binary(0))), 1, 0}, {node("n", "above", fromPoint("x"), fromPoint("y")), 1, 0}, {node("n", "below", fromNode("other"), delayed(fromNode("n"), binary(0))), 1, 0}, {node("n", "hyst", fromPoint("x")), 1, 0},
		{node("n", "pick", fromPoint("x"), delayed(fromPoint("y"), binary(0)), fromNode("f0")), 0, 0}, {node("n", "count", fromPoint("x"), fromNode("f0")), 0, 0}, {node("n", "steps", fromPoint("x"), delayed(fromNode("f0"), binary(0))), 0, 0}, {node("n", "pid", fromPoint("x"), fromPoint("y"), fromNode("f0")), 0, 0},
	} {
		for _, isMore := range []bool{false, true} {
			more := map[bool]int{true: 1}[isMore]
			p, q := alternatives(10-x.free+more, 0), alternatives(1, 10-x.bits+more)
			p.Nodes, q.Nodes = append(p.Nodes, other, x.n), append(q.Nodes, other, x.n)
			bounded(t, "choices of "+strconv.Itoa(i), p, isMore)
			bounded(t, "bits of "+strconv.Itoa(i), q, isMore)
		}
	}
	// Delayed links of drives count neither.
	p := alternatives(10, 10)
	p.Drives = []api.Drive{{Point: "y", Level: 10, From: delayed(fromPoint("x"), binary(0))}}
	bounded(t, "with a drive", p, false)
}

// failing are programs that cannot run.
func failing() []api.Program {
	good := node("a", "not", fromPoint("x"))
	list := []api.Program{
		program(make([]api.Node, api.MaxNodes+1)...), program(good, good), program(good, node("b", "not", fromNode("c"))), program(node("a", "not", fromNode("a"))), program(good, node("b", "not", fromNode("c")), node("c", "not", fromNode("b"))),
		program(node("a", "not", fromPoint("X"))), program(node("a", "not", api.Link{Point: "x", Port: 1})), program(node("a", "not", fromConst(binary(2)))), program(node("a", "not", fromConst(api.Value{}))), program(node("a", "not", api.Link{Point: "x", Delayed: true})), program(node("a", "not", api.Link{Point: "x", Initial: binary(1)})),
		program(node("a", "nor", fromPoint("x"))), program(api.Node{Name: "a", Block: "not", Params: []api.Param{{Name: "time"}}, Inputs: good.Inputs}), program(api.Node{Name: "a", Block: "ondelay", Params: []api.Param{{Name: "time", Value: -1}}, Inputs: good.Inputs}), program(api.Node{Name: "a", Block: "ondelay", Params: []api.Param{{Name: "time"}, {Name: "time"}}, Inputs: good.Inputs}), program(api.Node{Name: "a", Block: "hyst", Params: []api.Param{{Name: "on"}}, Inputs: good.Inputs}), program(node("a", "not")), program(good, node("b", "and", fromPoint("x"))),
	}
	undriven := program(good)
	undriven.Drives = []api.Drive{{Point: "y", Level: 10, From: fromNode("none")}}
	return append(list, undriven)
}

// The errors of interp.Start come first, also before too many choices.
func TestP30Errors(t *testing.T) {
	found := map[api.Errno]bool{}
	for i, p := range failing() {
		_, want := interp.Start(p)
		found[want] = true
		large := p
		if len(p.Nodes) < 40 {
			large.Nodes = append(slices.Clone(p.Nodes), alternatives(11, 11).Nodes...)
		}
		for _, p := range []api.Program{p, large} {
			l, e := reach.Wires(p)
			n, f := reach.Count(p)
			run, g := reach.Ever(p, wire("none"))
			both, h := reach.Together(p, wire("a"), wire("none"))
			yes, k := reach.Is(p, steps("101"))
			if want == api.OK || e != want || f != want || g != want || h != want || k != want {
				t.Errorf("%d: %d, %d, %d, %d, %d, not %d", i, e, f, g, h, k, want)
			}
			if len(l)+n+len(run)+len(both) > 0 || yes {
				t.Errorf("%d: %v, %d, %v, %v, %v", i, l, n, run, both, yes)
			}
		}
	}
	for _, e := range []api.Errno{api.ErrTooMany, api.ErrDuplicate, api.ErrUnknown, api.ErrCycle, api.ErrInvalid, api.ErrRange, api.ErrConflict} {
		if !found[e] {
			t.Errorf("no program with the error %d", e)
		}
	}
}

func TestP30_2Unknown(t *testing.T) {
	p := program(node("a", "and", fromPoint("x"), fromConst(binary(0))), node("s", "pick", fromPoint("x"), fromPoint("x"), fromPoint("x")), node("b", "not", fromPoint("x")))
	for _, w := range []reach.Wire{{}, wire("s"), wire("x"), wire("A"), wire("a "), wire("c"), {Node: "a", Port: 1}, {Node: "a", Port: -1}, wire(strings.Repeat("a", 100000))} {
		// The wire a is never on, but an unknown wire comes first.
		run, e := reach.Ever(p, w)
		first, f := reach.Together(p, w, wire("a"))
		second, g := reach.Together(p, wire("a"), w)
		third, h := reach.Together(p, wire("b"), w)
		if e != api.ErrUnknown || f != e || g != e || h != e || len(run)+len(first)+len(second)+len(third) > 0 {
			t.Errorf("%.30q: %d, %d, %d, %d", w.Node, e, f, g, h)
		}
	}
	ever(t, p, "a", "-")
	ever(t, p, "b", "01")
	together(t, p, "a", "b", "-")
	// A program that can run may have a node whose name is no name.
	ever(t, program(node("", "hyst", fromPoint("x")), node("N O", "not", fromPoint("x"))), "", "10")
	ever(t, program(node("", "hyst", fromPoint("x")), node("N O", "not", fromPoint("x"))), "N O", "01")
}

// Arguments stay as they are, and results share no memory.
func TestP30_2Memory(t *testing.T) {
	build := func() api.Program {
		p := program(node("a", "latch", fromPoint("on"), fromPoint("stop")), node("b", "or", delayed(fromNode("a"), binary(0)), fromConst(binary(0))))
		p.Drives = []api.Drive{{Point: "y", Level: 10, From: fromNode("b")}}
		return p
	}
	p := build()
	l, _ := reach.Wires(p)
	first, _ := reach.Ever(p, wire("b"))
	l[0], first[0][0], first[1] = wire("z"), false, nil
	run := steps("10 11 01")
	is(t, p, true, "10 11 01")
	reach.Is(p, run)
	ever(t, p, "b", "10 01")
	if again, _ := reach.Wires(p); again[0] != wire("a") || text(run) != "10 11 01" || !reflect.DeepEqual(p, build()) {
		t.Error("memory is shared, or an argument was changed")
	}
}
