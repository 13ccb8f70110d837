package ranges_test

import (
	"math"
	"math/rand"
	"slices"
	"strconv"
	"testing"

	"plenum/api"
	"plenum/block"
	"plenum/interp"
	"plenum/order"
	"plenum/pid"
	programs "plenum/program"
	"plenum/psychro"
	"plenum/ranges"
	"plenum/sequencer"
	"plenum/timer"
)

// kindOf returns the kind of the values of a port with a type, where T stands for a kind.
func kindOf(text string, any int) int {
	switch text {
	case "binary":
		return api.Binary
	case "multi":
		return api.Multi
	case "T":
		return any
	}
	return api.Analog
}

// ofKind returns a word for the type of a port of a kind.
func ofKind(kind int) string {
	return map[int]string{api.Analog: "analog", api.Binary: "binary", api.Multi: "multi"}[kind]
}

// within returns a number of a range, often an end.
func within(source *rand.Rand, s api.Span) int64 {
	return pick(source, s.Lo, s.Hi, s.Lo+source.Int63n(s.Hi-s.Lo+1))
}

// part returns a range within another one.
func part(source *rand.Rand, s api.Span) api.Span {
	a, b := within(source, s), within(source, s)
	return span(min(a, b), max(a, b))
}

// contains reports whether a range contains another one.
func contains(s, inner api.Span) bool { return s.Lo <= inner.Lo && inner.Hi <= s.Hi }

// step evaluates a block by the function of its layer.
func step(name string, params, state []int64, in []api.Value, dt int) ([]int64, api.Value, api.Errno) {
	switch name {
	case "count", "edge", "hyst", "latch", "minrun", "offdelay", "ondelay", "pulse":
		return timer.Step(name, params, state, in, dt)
	case "pid", "rate":
		return pid.Step(name, params, state, in, dt)
	case "stage", "steps":
		return sequencer.Step(name, params, state, in, dt)
	case "dewpoint", "enthalpy":
		v, e := psychro.Eval(name, params, in)
		return nil, v, e
	}
	v, e := block.Eval(name, params, in)
	return nil, v, e
}

// The output of a block, evaluated again and again with inputs within ranges, lies within the range of the block, and smaller ranges never give a greater one.
func TestP29_4Blocks(t *testing.T) {
	source := rand.New(rand.NewSource(294))
	for _, name := range block.Names() {
		d, _ := block.Find(name)
		for range 300 {
			list := randomParams(source, name)
			values, _ := block.Params(name, list)
			ports, _ := block.Inputs(name, len(d.Inputs)+source.Intn(d.Most))
			any := 1 + source.Intn(3)
			var in, smaller []api.Span
			for _, port := range ports {
				text := ofKind(kindOf(port.Type, any))
				s := limited(randomSpan(source, text), widest(text))
				in, smaller = append(in, s), append(smaller, part(source, s))
			}
			n := api.Node{Block: name, Params: list}
			s, e := ranges.Block(n, in)
			inner, f := ranges.Block(n, smaller)
			if e != api.OK || f != api.OK || !contains(s, inner) {
				t.Fatalf("Block of %s %v over %v: %v, %d, over %v: %v, %d", name, list, in, s, e, smaller, inner, f)
			}
			state := make([]int64, d.State)
			for range 20 {
				var numbers []api.Value
				for i, port := range ports {
					numbers = append(numbers, api.Value{Kind: kindOf(port.Type, any), N: within(source, in[i])})
				}
				next, v, e := step(name, values, state, numbers, pick(source, 1, 3, api.DaySeconds))
				if e != api.OK || !contains(s, at(v.N)) {
					t.Fatalf("%s %v of %v: %v, %d, which is not within %v over %v", name, list, numbers, v, e, s, in)
				}
				state = next
			}
		}
	}
}

// The ranges of many blocks are as small as they can be: their ends are outputs.
func TestP29_4Exact(t *testing.T) {
	source := rand.New(rand.NewSource(295))
	for _, name := range []string{"add", "sub", "min", "max", "neg", "abs", "mul", "mean", "limit", "line", "above", "below", "and", "or", "xor", "not"} {
		d, _ := block.Find(name)
		for range 60 {
			list := randomParams(source, name)
			values, _ := block.Params(name, list)
			var in []api.Span
			for _, port := range d.Inputs {
				lo, length := source.Int63n(9)-5, source.Int63n(6)
				if port.Type == "binary" {
					lo = source.Int63n(2)
					length = source.Int63n(2 - lo)
				}
				in = append(in, span(lo, lo+length))
			}
			var outputs []int64
			last := in[len(in)-1]
			for a := in[0].Lo; a <= in[0].Hi; a++ {
				for b := last.Lo; b <= last.Hi; b++ {
					kind := kindOf(d.Inputs[0].Type, api.Analog)
					numbers := []api.Value{{Kind: kind, N: a}, {Kind: kind, N: b}}
					v, _ := block.Eval(name, values, numbers[:len(in)])
					outputs = append(outputs, v.N)
				}
			}
			want := span(slices.Min(outputs), slices.Max(outputs))
			if got, e := ranges.Block(api.Node{Block: name, Params: list}, in); got != want || e != api.OK {
				t.Fatalf("Block of %s %v over %v: %v, %d, not %v", name, list, in, got, e, want)
			}
		}
	}
}

// randomValue returns a value of a kind, as constants are.
func randomValue(source *rand.Rand, kind int) api.Value {
	text := ofKind(kind)
	return api.Value{Kind: kind, N: within(source, limited(randomSpan(source, text), widest(text)))}
}

// world is a random program in the making, with the kinds of the outputs of its nodes and with ranks, in which they follow each other.
type world struct {
	source *rand.Rand
	p      api.Program
	kinds  []int
	rank   []int
}

// link returns a link that gives values of a kind to a node, or to a drive, if the index is -1.
func (w world) link(node, kind int) api.Link {
	isDelayed := w.source.Intn(3) == 0
	list := []api.Link{fromConst(randomValue(w.source, kind))}
	for _, x := range points() {
		if x.Kind == kind {
			list = append(list, fromPoint(x.Name))
		}
	}
	for i, n := range w.p.Nodes {
		if w.kinds[i] == kind && (isDelayed || node < 0 || w.rank[i] < w.rank[node]) {
			list = append(list, fromNode(n.Name), fromNode(n.Name), fromNode(n.Name), fromNode(n.Name))
		}
	}
	l := pick(w.source, list...)
	if isDelayed {
		return delayed(l, randomValue(w.source, kind))
	}
	return l
}

// randomProgram returns a valid program whose values fit.
func randomProgram(source *rand.Rand, count int) api.Program {
	w := world{source: source, rank: source.Perm(count), p: program()}
	for len(w.p.Nodes) < count {
		d, _ := block.Find(pick(source, block.Names()...))
		if source.Intn(3) == 0 {
			d, _ = block.Find(pick(source, "add", "sub", "mul", "div", "mean", "limit", "pick", "min", "max"))
		}
		w.p.Nodes = append(w.p.Nodes, api.Node{Name: "n" + strconv.Itoa(len(w.p.Nodes)), Block: d.Name, Params: randomParams(source, d.Name)})
		w.kinds = append(w.kinds, kindOf(d.Outputs[0].Type, 1+source.Intn(3)))
	}
	for i := range w.p.Nodes {
		n := &w.p.Nodes[i]
		d, _ := block.Find(n.Block)
		ports, _ := block.Inputs(n.Block, len(d.Inputs)+source.Intn(min(d.Most, 3)))
		for _, port := range ports {
			n.Inputs = append(n.Inputs, w.link(i, kindOf(port.Type, w.kinds[i])))
		}
	}
	for _, x := range points() {
		if x.Role != api.Input && source.Intn(2) == 0 {
			w.p.Drives = append(w.p.Drives, drive(x.Name, w.link(-1, x.Kind)))
		}
	}
	return w.p
}

// model has ranges of the nodes of a program by their names. It finds ranges by the definitions.
type model struct {
	p    api.Program
	list map[string]api.Span
}

// newModel returns a model in which the nodes have given ranges.
func newModel(p api.Program, list []api.Span) model {
	m := model{p, map[string]api.Span{}}
	for i, n := range p.Nodes {
		m.list[n.Name] = list[i]
	}
	return m
}

// spans returns the ranges of the nodes in order.
func (m model) spans() []api.Span {
	var list []api.Span
	for _, n := range m.p.Nodes {
		list = append(list, m.list[n.Name])
	}
	return list
}

// link returns the range of a link.
func (m model) link(l api.Link) api.Span {
	s := at(l.Const.N)
	if l.Node != "" {
		s = m.list[l.Node]
	}
	for _, x := range points() {
		if x.Name == l.Point {
			s = []api.Span{{}, span(x.Low, x.High), span(0, 1), span(1, int64(len(x.States)))}[x.Kind]
		}
	}
	if l.Delayed {
		return span(min(s.Lo, l.Initial.N), max(s.Hi, l.Initial.N))
	}
	return s
}

// block returns the range of the block of a node.
func (m model) block(n api.Node) api.Span {
	ports, _ := block.Inputs(n.Block, len(n.Inputs))
	var in []api.Span
	for i, l := range n.Inputs {
		in = append(in, limited(m.link(l), widest(ports[i].Type)))
	}
	return definition(n.Block, valuesOf(n.Block, n.Params), in)
}

// leastOrder returns the nodes in their least order: always the first one that can follow.
func leastOrder(p api.Program) []api.Node {
	feeds, _ := order.Feeds(p)
	isDone := make([]bool, len(p.Nodes))
	var list []api.Node
search:
	for len(list) < len(p.Nodes) {
		for i, n := range p.Nodes {
			isReady := !slices.ContainsFunc(feeds[i], func(k int) bool { return !isDone[k] })
			if isReady && !isDone[i] {
				isDone[i] = true
				list = append(list, n)
				continue search
			}
		}
	}
	return list
}

// greatest returns the ranges that nodes have at first.
func greatest(p api.Program) []api.Span {
	var list []api.Span
	for _, n := range p.Nodes {
		d, _ := block.Find(n.Block)
		list = append(list, widest(d.Outputs[0].Type))
	}
	return list
}

// found returns the ranges that are found, and the number of rounds that changed something.
func found(p api.Program) ([]api.Span, int) {
	m := newModel(p, greatest(p))
	for round := range ranges.MaxRounds {
		before := m.spans()
		for _, n := range leastOrder(p) {
			m.list[n.Name] = m.block(n)
		}
		if slices.Equal(before, m.spans()) {
			return before, round
		}
	}
	return m.spans(), ranges.MaxRounds
}

// firstConflict returns the index of the first node whose range does not contain that of its block, or their number.
func firstConflict(p api.Program, list []api.Span) int {
	m := newModel(p, list)
	for i, n := range p.Nodes {
		if !contains(list[i], m.block(n)) {
			return i
		}
	}
	return len(p.Nodes)
}

// errorOf returns the error of Check for the index of the first conflict.
func errorOf(p api.Program, first int) api.Errno {
	if first < len(p.Nodes) {
		return api.ErrConflict
	}
	return api.OK
}

// near returns ranges of which some ends are a little or far away.
func near(source *rand.Rand, list []api.Span) []api.Span {
	list = slices.Clone(list)
	for i, s := range list {
		lo, hi := s.Lo+pick[int64](source, 0, 0, 0, 0, 0, -1, 1, -5000), s.Hi+pick[int64](source, 0, 0, 0, 0, 0, 1, -1, 5000)
		list[i] = span(min(lo, hi), max(lo, hi))
	}
	return list
}

func TestP29_2Definitions(t *testing.T) {
	source := rand.New(rand.NewSource(292))
	rounds, conflicts := map[int]int{}, map[bool]int{}
	for range 1500 {
		p := randomProgram(source, source.Intn(12))
		want, round := found(p)
		rounds[round]++
		got, e := ranges.Find(p, points())
		if e != api.OK || !slices.Equal(got, want) {
			t.Fatalf("Find of %v: %v, %d, not %v", p, got, e, want)
		}
		for range 5 {
			list := near(source, got)
			first := firstConflict(p, list)
			conflicts[first < len(list)]++
			if n, e := ranges.Check(p, points(), list); n != first || e != errorOf(p, first) {
				t.Fatalf("Check of %v with %v: %d, %d, not %d", p, list, n, e, first)
			}
		}
	}
	if rounds[1] < 100 || rounds[2] < 100 || rounds[3] < 20 || rounds[ranges.MaxRounds] < 5 || conflicts[true] < 1000 || conflicts[false] < 1000 {
		t.Errorf("the rounds: %v, the conflicts: %v", rounds, conflicts)
	}
}

func TestP29_3Definitions(t *testing.T) {
	source := rand.New(rand.NewSource(293))
	number := 0
	for range 1500 {
		p := randomProgram(source, source.Intn(8))
		list, _ := found(p)
		list = near(source, list)
		m := newModel(p, list)
		var want []api.Span
		var outside []int
		for i, d := range p.Drives {
			s := m.link(d.From)
			want = append(want, s)
			if !contains(m.link(fromPoint(d.Point)), s) {
				outside = append(outside, i)
			}
		}
		number += len(outside)
		if got, e := ranges.Drives(p, points(), list); e != api.OK || !slices.Equal(got, want) {
			t.Fatalf("Drives of %v with %v: %v, %d, not %v", p, list, got, e, want)
		}
		if got, e := ranges.Outside(p, points(), list); e != api.OK || !slices.Equal(got, outside) {
			t.Fatalf("Outside of %v with %v: %v, %d, not %v", p, list, got, e, outside)
		}
	}
	if number < 300 {
		t.Errorf("%d drives are outside", number)
	}
}

// grown returns ranges that follow from each other and contain given ones, if chance finds some.
func grown(p api.Program, list []api.Span) ([]api.Span, bool) {
	m := newModel(p, list)
	for range 200 {
		if firstConflict(p, m.spans()) == len(p.Nodes) {
			return m.spans(), true
		}
		for _, n := range p.Nodes {
			s, old := m.block(n), m.list[n.Name]
			m.list[n.Name] = span(min(s.Lo, old.Lo), max(s.Hi, old.Hi))
		}
	}
	return nil, false
}

// randomInputs returns values for all points within their ranges.
func randomInputs(source *rand.Rand, before []api.Setting) []api.Setting {
	var list []api.Setting
	for i, x := range points() {
		s, _ := ranges.Input(x)
		v := api.Value{Kind: x.Kind, N: within(source, s)}
		if len(before) > 0 && source.Intn(3) > 0 {
			v = before[i].Value
		}
		list = append(list, api.Setting{Point: x.Name, Value: v})
	}
	return list
}

// The ranges that are found follow from each other, and ranges that do contain the outputs of all nodes in all scans, and what the drives command.
func TestP29_4Programs(t *testing.T) {
	source := rand.New(rand.NewSource(296))
	different := 0
	for range 700 {
		p := randomProgram(source, source.Intn(12))
		list, _ := ranges.Find(p, points())
		if n, e := ranges.Check(p, points(), list); n != len(list) || e != api.OK {
			t.Fatalf("Check of what Find returns for %v: %d, %d", p, n, e)
		}
		lists := [][]api.Span{list}
		// Others may be smaller, or not comparable: they are grown from a number for each node.
		var least []api.Span
		for _, s := range list {
			least = append(least, at(within(source, s)))
		}
		if other, exists := grown(p, least); exists {
			lists = append(lists, other)
			if !slices.Equal(list, other) {
				different++
			}
			if n, e := ranges.Check(p, points(), other); n != len(other) || e != api.OK {
				t.Fatalf("Check of %v with %v: %d, %d", p, other, n, e)
			}
		}
		checkScans(t, source, p, lists)
	}
	if different < 100 {
		t.Errorf("%d lists are other ones than those that Find returns", different)
	}
}

// checkScans compares the values of some scans with ranges that should contain them.
func checkScans(t *testing.T, source *rand.Rand, p api.Program, lists [][]api.Span) {
	t.Helper()
	memory, _ := interp.Start(p)
	var inputs []api.Setting
	for range 12 {
		inputs = randomInputs(source, inputs)
		next, result, e := interp.Scan(p, memory, inputs, pick(source, 1, 60, api.DaySeconds))
		if e != api.OK {
			t.Fatalf("Scan of %v: %d", p, e)
		}
		memory = next
		for _, list := range lists {
			driven, _ := ranges.Drives(p, points(), list)
			outside, _ := ranges.Outside(p, points(), list)
			for i, wires := range result.Wires {
				if !contains(list[i], at(wires[0].N)) {
					t.Fatalf("%v: node %d gives %v, which is not within %v", p, i, wires[0], list[i])
				}
			}
			for i, v := range result.Drives {
				x := points()[slices.IndexFunc(points(), func(x api.Point) bool { return x.Name == p.Drives[i].Point })]
				s, _ := ranges.Input(x)
				if !contains(driven[i], at(v.N)) || !contains(s, at(v.N)) && !slices.Contains(outside, i) {
					t.Fatalf("%v: drive %d commands %v: %v, %v", p, i, v, driven[i], outside)
				}
			}
		}
	}
}

// Results share no memory with each other or with arguments.
func TestP29_2Memory(t *testing.T) {
	c := sample()
	c.p.Drives[0].From = fromConst(analog(5))
	first, _ := ranges.Find(c.p, c.points)
	second, _ := ranges.Find(c.p, c.points)
	driven, _ := ranges.Drives(c.p, c.points, c.list)
	first[0], driven[0], driven[1] = at(7), at(7), at(7)
	if second[0] == at(7) || c.list[0] == at(7) || c.list[2] == at(7) {
		t.Error("memory is shared")
	}
}

// spoiled returns a call with a change that may make it wrong.
func spoiled(source *rand.Rand, c call) call {
	c.p.Nodes, c.p.Drives, c.points, c.list = slices.Clone(c.p.Nodes), slices.Clone(c.p.Drives), slices.Clone(c.points), slices.Clone(c.list)
	number := pick(source, 0, 1, -1, 17, math.MaxInt, math.MinInt)
	name := pick(source, "", "n0", "N", "zone", "fan", "none")
	value := api.Value{Kind: source.Intn(5), N: int64(number)}
	link := api.Link{Node: pick(source, "", name), Point: pick(source, "", name), Const: pick(source, api.Value{}, value), Delayed: source.Intn(2) == 0, Initial: pick(source, api.Value{}, value)}
	x := &c.points[source.Intn(len(c.points))]
	switch source.Intn(10) {
	case 0:
		c.p.Name = name
	case 1:
		c.p.Period = number
	case 2:
		c.p.Drives = append(c.p.Drives, api.Drive{Point: name, Level: number, From: link})
	case 3:
		c.p.Nodes = append(c.p.Nodes, api.Node{Name: name, Block: pick(source, block.Names()...), Inputs: []api.Link{link}})
	case 4:
		x.Kind = number
	case 5:
		x.Low, x.States = int64(number), nil
	case 6:
		c.list = append(c.list, span(int64(number), math.MaxInt64))
	}
	if len(c.p.Nodes) == 0 {
		return c
	}
	at := source.Intn(len(c.p.Nodes))
	n := &c.p.Nodes[at]
	switch source.Intn(9) {
	case 0:
		n.Block = pick(source, append(block.Names(), "none")...)
	case 1:
		n.Inputs = append(slices.Clone(n.Inputs), link)
	case 2:
		n.Params = append(slices.Clone(n.Params), api.Param{Name: pick(source, "time", "high", ""), Value: int64(number)})
	case 3:
		n.Name = name
	case 4, 5:
		n.Inputs = slices.Clone(n.Inputs)
		n.Inputs[source.Intn(max(len(n.Inputs), 1))] = pick(source, link, fromNode(n.Name), fromConst(value))
	case 6:
		c.list[at%len(c.list)] = span(int64(number), int64(-number))
	}
	return c
}

// firstError returns the error of Find, or that of the functions with a list.
func firstError(c call, hasList bool) api.Errno {
	if e := programs.Check(c.points, c.p); e != api.OK {
		return e
	}
	for _, x := range c.points {
		if _, e := ranges.Input(x); e != api.OK {
			return e
		}
	}
	if _, e := order.Of(c.p); e != api.OK {
		return api.ErrCycle
	}
	isWrong := len(c.list) != len(c.p.Nodes) || slices.ContainsFunc(c.list, func(s api.Span) bool { return s.Lo > s.Hi })
	if hasList && isWrong {
		return api.ErrInvalid
	}
	return api.OK
}

// Whatever the arguments are, the functions terminate with the first error and nothing else, or without one.
func TestP29Any(t *testing.T) {
	source := rand.New(rand.NewSource(297))
	errors := map[api.Errno]int{}
	for range 3000 {
		p := randomProgram(source, 1+source.Intn(5))
		list, _ := found(p)
		c := spoiled(source, call{p, points(), list})
		find, with := firstError(c, false), firstError(c, true)
		errors[with]++
		got, e := ranges.Find(c.p, c.points)
		n, f := ranges.Check(c.p, c.points, c.list)
		driven, g := ranges.Drives(c.p, c.points, c.list)
		outside, h := ranges.Outside(c.p, c.points, c.list)
		if e != find || g != with || h != with || f != with && (with != api.OK || f != api.ErrConflict) {
			t.Fatalf("%v: %d, %d, %d, %d, not %d and %d", c, e, f, g, h, find, with)
		}
		if e != api.OK && len(got) > 0 || with != api.OK && n+len(driven)+len(outside) > 0 {
			t.Fatalf("%v: %v, %d, %v, %v with the errors %d and %d", c, got, n, driven, outside, e, f)
		}
	}
	for _, e := range []api.Errno{api.OK, api.ErrName, api.ErrUnknown, api.ErrInvalid, api.ErrRange, api.ErrType, api.ErrCycle, api.ErrDuplicate} {
		if errors[e] < 10 {
			t.Errorf("%d calls with the error %d", errors[e], e)
		}
	}
}
