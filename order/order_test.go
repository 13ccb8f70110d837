package order_test

import (
	"math"
	"reflect"
	"slices"
	"strconv"
	"strings"
	"testing"

	"plenum/api"
	"plenum/order"
)

// graph returns a program whose nodes and drives are written as words: "a: b c~" is the node a with an input from b and a delayed one from c, "-> b" a drive from b.
func graph(lines ...string) api.Program {
	var p api.Program
	for _, line := range lines {
		name, rest, _ := strings.Cut(line, ":")
		if from, isDrive := strings.CutPrefix(line, "-> "); isDrive {
			p.Drives = append(p.Drives, api.Drive{From: link(from)})
			continue
		}
		n := api.Node{Name: name}
		for _, word := range strings.Fields(rest) {
			n.Inputs = append(n.Inputs, link(word))
		}
		p.Nodes = append(p.Nodes, n)
	}
	return p
}

// link returns the link that a word stands for: a node, delayed with ~ behind it; a point with @ before it; or a constant, which is written #.
func link(word string) api.Link {
	name, isDelayed := strings.CutSuffix(word, "~")
	l := api.Link{Node: name, Delayed: isDelayed}
	if point, isPoint := strings.CutPrefix(name, "@"); isPoint {
		l.Node, l.Point = "", point
	}
	if name == "#" {
		l.Node, l.Const = "", api.Value{Kind: api.Analog}
	}
	return l
}

// sample is the program of the chapter's examples.
func sample() api.Program { return graph("a: c~", "b: a c", "c: d", "d:", "-> c") }

// many returns a program with so many nodes without inputs.
func many(count int) api.Program {
	var p api.Program
	for i := range count {
		p.Nodes = append(p.Nodes, api.Node{Name: "n" + strconv.Itoa(i)})
	}
	return p
}

// joined returns a program with the nodes and drives of some.
func joined(list ...api.Program) api.Program {
	var p api.Program
	for _, q := range list {
		p.Nodes, p.Drives = append(p.Nodes, q.Nodes...), append(p.Drives, q.Drives...)
	}
	return p
}

// connected are programs without an error of Check.
func connected() []api.Program {
	return []api.Program{
		{}, sample(), many(1), many(api.MaxNodes), graph("-> @x", "-> #", "-> @x~"), graph("a: a"), graph("a: a~"), graph("a: b", "b: a", "-> b~"),
		// Names that are none, an empty one included, do not matter; no link comes from a node without a name.
		graph("A b/c:", "x: A", "A:", "Ä:"), graph(": @x #", "a: @x # @y~"), graph(":", "-> @x"),
		{Nodes: []api.Node{{Name: "a", Inputs: []api.Link{{Node: "a", Point: "x", Port: -4, Const: api.Value{N: 9}, Initial: api.Value{Kind: 17}}}}}},
		{Name: "9", Period: -1, Nodes: []api.Node{{Name: "x", Block: "nothing", Params: []api.Param{{Name: "b"}, {Name: "a"}}}}, Drives: []api.Drive{{Point: "", Level: -1, From: api.Link{Node: "x", Port: 2}}}},
	}
}

// faulty is a program that is not connected.
type faulty struct {
	p api.Program
	e api.Errno
}

// faults are programs that are not connected, with their errors.
func faults() []faulty {
	tooMany, twice, unknown := many(api.MaxNodes+1), graph("x:", "y:", "x:"), graph("z: none")
	full := many(api.MaxNodes)
	full.Nodes[63].Inputs = []api.Link{link("n63"), link("n64")}
	return []faulty{
		{tooMany, api.ErrTooMany}, {many(500), api.ErrTooMany}, {joined(tooMany, tooMany), api.ErrTooMany}, {joined(tooMany, unknown), api.ErrTooMany}, {joined(many(61), twice, unknown), api.ErrTooMany}, {joined(many(60), twice, unknown), api.ErrDuplicate}, {api.Program{Nodes: make([]api.Node, api.MaxNodes+1)}, api.ErrTooMany},
		{twice, api.ErrDuplicate}, {graph(":", ":"), api.ErrDuplicate}, {joined(many(62), graph("x:", "n0: x")), api.ErrDuplicate}, {joined(many(63), graph("n0:")), api.ErrDuplicate}, {joined(twice, unknown), api.ErrDuplicate}, {joined(unknown, twice), api.ErrDuplicate}, {joined(twice, graph("-> none")), api.ErrDuplicate}, {api.Program{Nodes: make([]api.Node, api.MaxNodes)}, api.ErrDuplicate},
		{unknown, api.ErrUnknown}, {graph("a: none~"), api.ErrUnknown}, {graph("a: @x # none"), api.ErrUnknown}, {graph("-> none"), api.ErrUnknown}, {graph("-> none~"), api.ErrUnknown}, {graph("a:", "-> a", "-> @a", "-> aa"), api.ErrUnknown}, {graph("a: A"), api.ErrUnknown}, {graph("a: @x", "b: x"), api.ErrUnknown}, {full, api.ErrUnknown}, {graph("a: a none"), api.ErrUnknown}, {graph(":", "b: c~"), api.ErrUnknown},
		{api.Program{Nodes: []api.Node{{Name: "a", Inputs: []api.Link{{Node: "b", Point: "a"}}}}}, api.ErrUnknown},
	}
}

func TestP25_1Check(t *testing.T) {
	for i, p := range connected() {
		if e := order.Check(p); e != api.OK {
			t.Errorf("the connected program %d: %d", i, e)
		}
	}
	for i, f := range faults() {
		if e := order.Check(f.p); e != f.e {
			t.Errorf("the program %d: %d, not %d", i, e, f.e)
		}
	}
}

// Every function has the errors of Check, first of all.
func TestP25Errors(t *testing.T) {
	for i, f := range faults() {
		feeds, e1 := order.Feeds(f.p)
		of, e2 := order.Of(f.p)
		cycle, e3 := order.Cycle(f.p)
		levels, e4 := order.Levels(f.p)
		behind, e5 := order.Behind(f.p, 0)
		idle, e6 := order.Idle(f.p)
		_, e7 := order.Behind(f.p, -1)
		for k, e := range []api.Errno{e1, e2, e3, e4, e5, e6, e7} {
			if e != f.e {
				t.Errorf("the program %d, function %d: %d, not %d", i, k, e, f.e)
			}
		}
		if len(feeds)+len(of)+len(cycle)+len(levels)+len(behind)+len(idle) != 0 {
			t.Errorf("the program %d: %v, %v, %v, %v, %v, %v", i, feeds, of, cycle, levels, behind, idle)
		}
		var list []int
		for k := range f.p.Nodes {
			list = append(list, k)
		}
		slices.Reverse(list)
		if order.Valid(f.p, list) || order.Valid(f.p, nil) {
			t.Errorf("the program %d has an order", i)
		}
	}
	// An unknown node comes before a cycle, and before the index of a node.
	p := graph("a: a", "b: none")
	if _, e := order.Of(p); e != api.ErrUnknown {
		t.Errorf("Of: %d", e)
	}
	if _, e := order.Levels(p); e != api.ErrUnknown {
		t.Errorf("Levels: %d", e)
	}
}

func TestP25_1Feeds(t *testing.T) {
	for i, x := range []struct {
		p    api.Program
		want [][]int
	}{
		{api.Program{}, nil}, {sample(), [][]int{{}, {0, 2}, {3}, {}}}, {graph("a:", "b: a a a~ a", "c: b a b a"), [][]int{{}, {0}, {0, 1}}},
		{graph("a: c b", "b: a~ c~", "c: c b a @a # a"), [][]int{{1, 2}, {}, {0, 1, 2}}}, {graph("a: @b @a~ #", "b:"), [][]int{{}, {}}}, {graph(":", "a: @x #", "b: a"), [][]int{{}, {}, {1}}},
		{api.Program{Nodes: []api.Node{{Name: "a"}, {Name: "b", Inputs: []api.Link{{Node: "a", Point: "x"}}}}}, [][]int{{}, {0}}}, {graph("a: b", "b:", "-> a"), [][]int{{1}, {}}},
	} {
		got, e := order.Feeds(x.p)
		if e != api.OK || !slices.EqualFunc(got, x.want, slices.Equal) {
			t.Errorf("%d: %v, %d, not %v", i, got, e, x.want)
		}
	}
}

func TestP25_2Of(t *testing.T) {
	for i, x := range []struct {
		p    api.Program
		want []int
	}{
		{api.Program{}, nil}, {sample(), []int{0, 3, 2, 1}}, {many(4), []int{0, 1, 2, 3}}, {graph("a: b", "b: c", "c: d", "d:"), []int{3, 2, 1, 0}}, {graph("a: d", "b:", "c: b", "d:", "e: a"), []int{1, 2, 3, 0, 4}},
		{graph("a: b~", "b: a"), []int{0, 1}}, {graph("a: b", "b: a~"), []int{1, 0}}, {graph("a: a~"), []int{0}}, {graph("a: c", "b:", "c:"), []int{1, 2, 0}}, {graph("b:", "a: b"), []int{0, 1}}, {graph("a: c @b #", "b: a b~", "c:"), []int{2, 0, 1}},
	} {
		got, e := order.Of(x.p)
		if e != api.OK || !slices.Equal(got, x.want) || !order.Valid(x.p, got) {
			t.Errorf("%d: %v, %d, not %v", i, got, e, x.want)
		}
	}
}

// cyclic are programs with a cycle, with the least of the shortest cycles.
func cyclic() map[*api.Program][]int {
	list := map[*api.Program][]int{}
	add := func(want []int, lines ...string) {
		p := graph(lines...)
		list[&p] = want
	}
	add([]int{0}, "a: a")
	add([]int{1}, "a: b~ a~", "b: a b")
	add([]int{0, 1}, "a: b c~", "b: a c", "c: d", "d:", "-> c")
	add([]int{3}, "a: b c~", "b: a c", "c: d", "d: d")
	add([]int{0, 2, 1}, "a: b", "b: c", "c: a")
	add([]int{0, 1, 2}, "a: c", "b: a", "c: b")
	add([]int{1, 2}, "a: d", "b: c", "c: b", "d: c a~")
	add([]int{0, 1, 3}, "a: d e", "b: a", "c: a", "d: b c", "e: c")
	add([]int{0, 1, 4}, "a: d e", "b: a", "c: a", "d: c", "e: b c")
	add([]int{2, 3}, "a: b", "b: c", "c: d a", "d: c")
	add([]int{1, 4}, "a: b", "b: c e", "c: a d", "d: c", "e: b")
	add([]int{0, 3}, "a: b d", "b: c", "c: a", "d: a")
	return list
}

func TestP25_3Cycle(t *testing.T) {
	for p, want := range cyclic() {
		if got, e := order.Cycle(*p); e != api.OK || !slices.Equal(got, want) {
			t.Errorf("%v: %v, %d, not %v", *p, got, e, want)
		}
		if list, e := order.Of(*p); e != api.ErrCycle || len(list) != 0 {
			t.Errorf("Of %v: %v, %d", *p, list, e)
		}
		if list, e := order.Levels(*p); e != api.ErrCycle || len(list) != 0 {
			t.Errorf("Levels of %v: %v, %d", *p, list, e)
		}
	}
	for i, p := range []api.Program{{}, sample(), many(64), graph("a: a~"), graph("a: b", "b: a~"), graph("a: @a", "b: a"), graph("a:", "b: a", "c: a b", "-> a")} {
		if got, e := order.Cycle(p); e != api.ErrNone || len(got) != 0 {
			t.Errorf("the program %d: %v, %d", i, got, e)
		}
	}
}

func TestP25_2Valid(t *testing.T) {
	p := sample()
	for _, list := range [][]int{{0, 3, 2, 1}, {3, 0, 2, 1}, {3, 2, 0, 1}} {
		if !order.Valid(p, list) {
			t.Errorf("%v is no order", list)
		}
	}
	for _, list := range [][]int{nil, {}, {0}, {3, 2, 1, 0}, {0, 3, 2}, {0, 3, 2, 1, 1}, {0, 3, 2, 1, 4}, {0, 3, 2, 2}, {0, 3, 2, 4}, {0, 3, 2, -1}, {-1, 0, 3, 2, 1}, {0, 0, 3, 2, 1}, {math.MaxInt, math.MinInt, 0, 1}, {1, 2, 3, 0}, make([]int, 5000)} {
		if order.Valid(p, list) {
			t.Errorf("%v is an order", list)
		}
	}
	if !order.Valid(api.Program{}, nil) || order.Valid(api.Program{}, []int{0}) || !order.Valid(graph("a: a~"), []int{0}) {
		t.Error("the programs without nodes, or with one node")
	}
	// What feeds itself, or others in a circle, has no order.
	if order.Valid(graph("a: a"), []int{0}) || order.Valid(graph("a: b", "b: a"), []int{0, 1}) || order.Valid(graph("a: b", "b: a"), []int{1, 0}) {
		t.Error("a cycle has an order")
	}
}

func TestP25_4Levels(t *testing.T) {
	for i, x := range []struct {
		p    api.Program
		want []int
	}{
		{api.Program{}, nil}, {sample(), []int{0, 2, 1, 0}}, {many(3), []int{0, 0, 0}}, {graph("a: b", "b: c", "c: d", "d:"), []int{3, 2, 1, 0}},
		{graph("a:", "b: a", "c: b a", "d: a c~", "e: d c"), []int{0, 1, 2, 1, 3}}, {graph("a: a~", "b: b~ a~ a"), []int{0, 1}}, {graph("x: @a #", "y: x @b"), []int{0, 1}}, {graph("e: a b c d", "a:", "b: a", "c: a b", "d: a"), []int{3, 0, 1, 2, 1}},
	} {
		if got, e := order.Levels(x.p); e != api.OK || !slices.Equal(got, x.want) {
			t.Errorf("%d: %v, %d, not %v", i, got, e, x.want)
		}
	}
}

func TestP25_5Behind(t *testing.T) {
	for i, x := range []struct {
		p    api.Program
		want [][]int // for each node
	}{
		{sample(), [][]int{{1}, {}, {0, 1}, {0, 1, 2}}}, {many(2), [][]int{{}, {}}}, {graph("a: a"), [][]int{{0}}}, {graph("a: a~"), [][]int{{0}}}, {graph("a: b~", "b: a", "c: b", "d:"), [][]int{{0, 1, 2}, {0, 1, 2}, {}, {}}},
		{graph("a:", "b: a~", "c: b~", "d: c~ c", "-> a"), [][]int{{1, 2, 3}, {2, 3}, {3}, {}}}, {graph("c: b", "b: a", "a:"), [][]int{{}, {0}, {0, 1}}}, {graph("a: @b", "b: @a a~"), [][]int{{1}, {}}},
	} {
		for node, want := range x.want {
			if got, e := order.Behind(x.p, node); e != api.OK || !slices.Equal(got, want) {
				t.Errorf("%d, node %d: %v, %d, not %v", i, node, got, e, want)
			}
		}
		for _, node := range []int{-1, len(x.want), math.MinInt, math.MaxInt} {
			if got, e := order.Behind(x.p, node); e != api.ErrInvalid || len(got) != 0 {
				t.Errorf("%d, node %d: %v, %d", i, node, got, e)
			}
		}
	}
	if _, e := order.Behind(api.Program{}, 0); e != api.ErrInvalid {
		t.Errorf("without nodes: %d", e)
	}
	// A cycle is no error.
	if got, e := order.Behind(graph("a: b", "b: a", "c: a"), 1); e != api.OK || !slices.Equal(got, []int{0, 1, 2}) {
		t.Errorf("a cycle: %v, %d", got, e)
	}
}

func TestP25_5Idle(t *testing.T) {
	for i, x := range []struct {
		p    api.Program
		want []int
	}{
		{api.Program{}, nil}, {sample(), []int{0, 1}}, {many(3), []int{0, 1, 2}}, {graph("a: b~", "b: c", "c: c", "d: a", "-> a"), []int{3}}, {graph("a:", "b:", "c: a~", "-> c~"), []int{1}}, {graph("a:", "b:", "-> @a", "-> #"), []int{0, 1}},
		{graph("a: b", "b: a", "c: a", "-> b"), []int{2}}, {graph("a:", "b:", "c:", "-> c", "-> a", "-> c"), []int{1}}, {graph("a: b", "b:", "-> a", "-> b"), nil}, {graph("a: a", "b: b~"), []int{0, 1}},
	} {
		if got, e := order.Idle(x.p); e != api.OK || !slices.Equal(got, x.want) {
			t.Errorf("%d: %v, %d, not %v", i, got, e, x.want)
		}
	}
}

// Arguments stay as they are, and results share no memory with anything.
func TestP25Memory(t *testing.T) {
	p, list := graph("a: b a~", "b: c c @x", "c: d~", "d: b", "e: e~ b", "-> a", "-> e~"), []int{2, 1, 0, 3, 4}
	q, same := graph("a: b a~", "b: c c @x", "c: d~", "d: b", "e: e~ b", "-> a", "-> e~"), slices.Clone(list)
	for range 2 {
		feeds, _ := order.Feeds(p)
		if !slices.EqualFunc(feeds, [][]int{{1}, {2}, {}, {1}, {1}}, slices.Equal) {
			t.Fatalf("Feeds: %v", feeds)
		}
		of, _ := order.Of(p)
		levels, _ := order.Levels(p)
		behind, _ := order.Behind(p, 3)
		idle, _ := order.Idle(p)
		if !slices.Equal(of, []int{2, 1, 0, 3, 4}) || !slices.Equal(levels, []int{2, 1, 0, 2, 2}) || !slices.Equal(behind, []int{0, 1, 2, 3, 4}) || len(idle) != 0 || !order.Valid(p, list) {
			t.Fatalf("%v, %v, %v, %v", of, levels, behind, idle)
		}
		for _, result := range append(feeds, of, levels, behind) {
			for i := range result {
				result[i] = 77
			}
			result = append(result, 78)
			_ = result
		}
		if !reflect.DeepEqual(p, q) || !slices.Equal(list, same) {
			t.Fatal("the arguments were changed")
		}
	}
	for i, result := range [][]int{{}, {1}} {
		feeds, _ := order.Feeds(graph("a:", "b: a", "c: b", "d: b"))
		_ = append(feeds[1], 9)
		_ = append(feeds[2], 9)
		if !slices.Equal(feeds[3], []int{1}) || !slices.Equal(feeds[2*i], result) {
			t.Errorf("lists of Feeds share memory: %v", feeds)
		}
	}
}
