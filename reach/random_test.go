package reach_test

import (
	"math"
	"math/rand"
	"slices"
	"strconv"
	"strings"
	"testing"

	"plenum/api"
	"plenum/block"
	"plenum/interp"
	"plenum/order"
	"plenum/reach"
)

// pick returns one of some things.
func pick[T any](source *rand.Rand, list ...T) T { return list[source.Intn(len(list))] }

// model examines a program by the definitions. Choices and bits have names; a state is a text of the bits that are on, and a step one of digits.
type model struct {
	p     api.Program
	free  []string
	bits  []string
	start string
	moves map[string][]move // those that are known, by their states
}

// move is what a scan does.
type move struct{ step, after string }

// isBinary reports whether the output of a block is binary, and isExact whether it is examined exactly.
func isBinary(name string) bool {
	d, _ := block.Find(name)
	return len(d.Outputs) == 1 && d.Outputs[0].Type == "binary"
}
func isExact(name string) bool {
	return slices.Contains(strings.Fields("and or not xor latch edge ondelay offdelay"), name)
}

// at returns the node with a name.
func (m *model) at(name string) api.Node {
	return m.p.Nodes[slices.IndexFunc(m.p.Nodes, func(n api.Node) bool { return n.Name == name })]
}

// place returns the name of a link, and bitOf that of the bit of a node.
func place(n api.Node, i int) string { return n.Name + "/" + strconv.Itoa(i) }
func bitOf(n api.Node) string        { return "node:" + n.Name }

// newModel returns the model of a program that can run.
func newModel(p api.Program) *model {
	m := &model{p: p, moves: map[string][]move{}}
	free, on := map[string]bool{}, map[string]bool{}
	for _, n := range p.Nodes {
		switch {
		case isBinary(n.Block) && !isExact(n.Block), strings.HasSuffix(n.Block, "delay"):
			free[n.Name] = true
		case n.Block == "latch" || n.Block == "edge":
			m.bits = append(m.bits, bitOf(n))
		}
		if !isExact(n.Block) {
			continue
		}
		for i, l := range n.Inputs {
			if l.Point != "" {
				free["point "+l.Point] = true
			} else if l.Node != "" && !isBinary(m.at(l.Node).Block) {
				free[place(n, i)] = true
			}
			if l.Delayed {
				m.bits = append(m.bits, place(n, i))
				on[place(n, i)] = l.Initial.N == 1
			}
		}
	}
	for name := range free {
		m.free = append(m.free, name)
	}
	slices.Sort(m.free)
	m.start = m.state(on)
	return m
}

// state returns the text of a state in which some bits are on.
func (m *model) state(on map[string]bool) string {
	var list []string
	for _, name := range m.bits {
		if on[name] {
			list = append(list, name)
		}
	}
	return strings.Join(list, " ")
}

// isTooLarge reports whether there are more choices or bits than can be examined.
func (m *model) isTooLarge() bool { return len(m.free) > 10 || len(m.bits) > 10 }

// isSmall reports whether the model is small enough for the tests.
func (m *model) isSmall() bool { return len(m.free) <= 5 && len(m.bits) <= 6 }

// trial is a scan from a state with choices.
type trial struct {
	*model
	before, choices map[string]bool
	values          map[string]bool // of the wires that are known
	after           map[string]bool
}

// present returns the present value of a link at a place.
func (x trial) present(l api.Link, place string) bool {
	switch {
	case l.Node != "" && isBinary(x.at(l.Node).Block):
		return x.wire(l.Node)
	case l.Node != "":
		return x.choices[place]
	case l.Point != "":
		return x.choices["point "+l.Point]
	}
	return l.Const.N == 1
}

// wire returns the value of a binary wire, for which it asks those of others.
func (x trial) wire(name string) bool {
	if on, known := x.values[name]; known {
		return on
	}
	n := x.at(name)
	value := x.choices[name]
	if isExact(n.Block) {
		var in []bool
		for i, l := range n.Inputs {
			if l.Delayed {
				in = append(in, x.before[place(n, i)])
			} else {
				in = append(in, x.present(l, place(n, i)))
			}
		}
		value = x.exact(n, in)
	}
	x.values[name] = value
	return value
}

// exact returns the output of an exact node for values of its links.
func (x trial) exact(n api.Node, in []bool) bool {
	switch n.Block {
	case "and":
		return !slices.Contains(in, false)
	case "or":
		return slices.Contains(in, true)
	case "not":
		return !in[0]
	case "xor":
		return in[0] != in[1]
	case "ondelay":
		return in[0] && x.choices[n.Name]
	case "offdelay":
		return in[0] || x.choices[n.Name]
	case "edge":
		x.after[bitOf(n)] = in[0]
		return in[0] && !x.before[bitOf(n)]
	}
	// latch
	on := x.before[bitOf(n)]
	if in[0] {
		on = true
	}
	if in[1] {
		on = false
	}
	x.after[bitOf(n)] = on
	return on
}

// from returns the moves from a state.
func (m *model) from(state string) []move {
	if list, known := m.moves[state]; known {
		return list
	}
	before := map[string]bool{}
	for _, name := range strings.Fields(state) {
		before[name] = true
	}
	seen := map[move]bool{}
	var list []move
	for number := range 1 << len(m.free) {
		x := trial{m, before, map[string]bool{}, map[string]bool{}, map[string]bool{}}
		for i, name := range m.free {
			x.choices[name] = number>>i&1 == 1
		}
		step := ""
		for _, n := range m.p.Nodes {
			if isBinary(n.Block) {
				step += map[bool]string{true: "1", false: "0"}[x.wire(n.Name)]
			}
		}
		for _, n := range m.p.Nodes {
			for i, l := range n.Inputs {
				if l.Delayed && isExact(n.Block) {
					x.after[place(n, i)] = x.present(l, place(n, i))
				}
			}
		}
		next := move{step, m.state(x.after)}
		if !seen[next] {
			seen[next] = true
			list = append(list, next)
		}
	}
	m.moves[state] = list
	return list
}

// reached returns the states that are reached.
func (m *model) reached() []string {
	list := []string{m.start}
	for i := 0; i < len(list); i++ {
		for _, next := range m.from(list[i]) {
			if !slices.Contains(list, next.after) {
				list = append(list, next.after)
			}
		}
	}
	return list
}

// distances returns, for the states from which there is a run to a step that is wanted, its least length.
func (m *model) distances(isWanted func(step string) bool) map[string]int {
	list := map[string]int{}
	for length, changes := 1, true; changes; length++ {
		changes = false
		for _, state := range m.reached() {
			if list[state] > 0 {
				continue
			}
			for _, next := range m.from(state) {
				if length == 1 && isWanted(next.step) || length > 1 && list[next.after] == length-1 {
					list[state], changes = length, true
				}
			}
		}
	}
	return list
}

// least returns the least of the shortest runs to a step that is wanted, or - if there is none: step by step the least one from which the rest is as short as possible.
func (m *model) least(isWanted func(step string) bool) string {
	list := m.distances(isWanted)
	if list[m.start] == 0 {
		return "-"
	}
	var run []string
	states := []string{m.start}
	for rest := list[m.start] - 1; rest >= 0; rest-- {
		best, next := "", []string(nil)
		for _, state := range states {
			for _, x := range m.from(state) {
				leads := rest == 0 && isWanted(x.step) || rest > 0 && list[x.after] == rest
				if leads && (best == "" || x.step < best) {
					best, next = x.step, nil
				}
				if leads && x.step == best {
					next = append(next, x.after)
				}
			}
		}
		run, states = append(run, best), next
	}
	return strings.Join(run, " ")
}

// isRun reports whether a text of steps is an abstract run.
func (m *model) isRun(run string) bool {
	states := []string{m.start}
	for _, step := range strings.Fields(run) {
		var next []string
		for _, state := range states {
			for _, x := range m.from(state) {
				if x.step == step && !slices.Contains(next, x.after) {
					next = append(next, x.after)
				}
			}
		}
		states = next
	}
	return len(states) > 0
}

// wires returns the names of the binary wires.
func (m *model) wires() []string {
	var list []string
	for _, n := range m.p.Nodes {
		if isBinary(n.Block) {
			list = append(list, n.Name)
		}
	}
	return list
}

// kindOf returns the kind of the values of a port with a type, where T stands for a binary one.
func kindOf(text string) int {
	switch text {
	case "binary", "T":
		return api.Binary
	case "multi":
		return api.Multi
	}
	return api.Analog
}

// kinds returns the kinds of the points, by their names, and names the names in order.
func kinds() map[string]int {
	return map[string]int{"x": api.Binary, "y": api.Binary, "room": api.Analog, "mode": api.Multi}
}
func names() []string { return []string{"mode", "room", "x", "y"} }

// randomValue returns a value of a kind.
func randomValue(source *rand.Rand, kind int) api.Value {
	switch kind {
	case api.Binary:
		return binary(source.Int63n(2))
	case api.Multi:
		return multi(1 + source.Int63n(3))
	}
	return analog(source.Int63n(4000) - 1000)
}

// randomLink returns a link for values of a kind from a constant, a point, or a node of which it asks whether it can come from it without a delay.
func randomLink(source *rand.Rand, p api.Program, kind int, isBefore func(i int) bool) api.Link {
	isDelayed := source.Intn(5) == 0
	var list []api.Link
	if source.Intn(4) == 0 {
		list = append(list, fromConst(randomValue(source, kind)))
	}
	for _, name := range names() {
		if kinds()[name] == kind {
			list = append(list, fromPoint(name))
		}
	}
	for i, n := range p.Nodes {
		d, _ := block.Find(n.Block)
		if kindOf(d.Outputs[0].Type) == kind && (isDelayed || isBefore(i)) {
			list = append(list, fromNode(n.Name), fromNode(n.Name))
		}
	}
	l := pick(source, list...)
	if isDelayed {
		return delayed(l, randomValue(source, kind))
	}
	return l
}

// randomProgram returns a program that can run, whose values fit. Most of its nodes are exact ones.
func randomProgram(source *rand.Rand, count int) api.Program {
	p := program()
	rank := source.Perm(count)
	for i := range count {
		name := pick(source, "and", "or", "not", "xor", "latch", "edge", "latch", "edge", "ondelay", "offdelay")
		if source.Intn(6) == 0 {
			name = pick(source, "above", "hyst", "minrun", "pulse", "pick", "choose", "stage", "count", "rate")
		}
		n := node("n"+strconv.Itoa(i), name)
		switch name {
		case "ondelay", "offdelay", "pulse":
			n.Params = []api.Param{{Name: "time", Value: source.Int63n(3)}}
		case "minrun":
			n.Params = []api.Param{{Name: "off", Value: source.Int63n(3)}, {Name: "on", Value: source.Int63n(3)}}
		}
		p.Nodes = append(p.Nodes, n)
	}
	for i := range p.Nodes {
		n := &p.Nodes[i]
		d, _ := block.Find(n.Block)
		ports, _ := block.Inputs(n.Block, len(d.Inputs)+source.Intn(min(d.Most, 2)))
		for _, port := range ports {
			n.Inputs = append(n.Inputs, randomLink(source, p, kindOf(port.Type), func(k int) bool { return rank[k] < rank[i] }))
		}
	}
	if source.Intn(4) == 0 {
		p.Drives = []api.Drive{{Point: "x", Level: 10, From: randomLink(source, p, api.Binary, func(int) bool { return true })}}
	}
	return p
}

// randomRun returns an abstract run, sometimes with a step that is changed.
func randomRun(source *rand.Rand, m *model) string {
	var run []string
	state := m.start
	for range source.Intn(6) {
		next := pick(source, m.from(state)...)
		run, state = append(run, next.step), next.after
	}
	if len(run) > 0 && source.Intn(2) == 0 && len(run[0]) > 0 {
		digits := []byte(run[source.Intn(len(run))])
		digits[source.Intn(len(digits))] ^= 1
		run[source.Intn(len(run))] = string(digits)
	}
	return strings.Join(run, " ")
}

// found is what the functions find for random programs.
type found struct{ none, long, tooLarge, runs, others int }

// explored compares what the functions return for a small program with the model.
func explored(t *testing.T, source *rand.Rand, m *model, f *found) {
	if n, e := reach.Count(m.p); e != api.OK || n != len(m.reached()) {
		t.Fatalf("Count of %v: %d, %d, not %d", m.p, n, e, len(m.reached()))
	}
	wires := m.wires()
	for i, a := range wires {
		run, e := reach.Ever(m.p, wire(a))
		want := m.least(func(step string) bool { return step[i] == '1' })
		compare(t, "Ever of "+a, run, e, want)
		k := source.Intn(len(wires))
		both, g := reach.Together(m.p, wire(a), wire(wires[k]))
		compare(t, "Together of "+a+" and "+wires[k], both, g, m.least(func(step string) bool { return step[i] == '1' && step[k] == '1' }))
		if t.Failed() {
			t.Fatalf("in %v", m.p)
		}
		if want == "-" {
			f.none++
		} else if strings.Count(want, " ") > 0 {
			f.long++
		}
	}
	for range 10 {
		run := randomRun(source, m)
		want := m.isRun(run)
		if got, e := reach.Is(m.p, steps(run)); e != api.OK || got != want {
			t.Fatalf("Is of %q in %v: %v, %d, not %v", run, m.p, got, e, want)
		}
		if want {
			f.runs++
		} else {
			f.others++
		}
	}
}

// Wires, Count, Ever, Together and Is are as defined.
func TestP30_2Definitions(t *testing.T) {
	source := rand.New(rand.NewSource(301))
	var f found
	for range 1500 {
		p := randomProgram(source, 1+source.Intn(12))
		m := newModel(p)
		got, e := reach.Wires(p)
		for i, name := range m.wires() {
			if e != api.OK || len(got) != len(m.wires()) || got[i] != wire(name) {
				t.Fatalf("Wires of %v: %v, %d", p, got, e)
			}
		}
		_, e = reach.Count(p)
		if (e == api.ErrTooMany) != m.isTooLarge() || e != api.OK && e != api.ErrTooMany {
			t.Fatalf("Count of %v: %d, with %v and %v", p, e, m.free, m.bits)
		}
		if m.isTooLarge() {
			f.tooLarge++
		} else if m.isSmall() {
			explored(t, source, m, &f)
		}
	}
	if f.none < 100 || f.long < 100 || f.tooLarge < 10 || f.runs < 1000 || f.others < 1000 {
		t.Errorf("what was found: %+v", f)
	}
}

// realRun returns the values of the binary wires in some scans.
func realRun(t *testing.T, source *rand.Rand, p api.Program) []reach.Step {
	memory, _ := interp.Start(p)
	var run []reach.Step
	var inputs []api.Setting
	for range 12 {
		before := inputs
		inputs = nil
		for i, name := range names() {
			s := api.Setting{Point: name, Value: randomValue(source, kinds()[name])}
			if len(before) > 0 && source.Intn(2) == 0 {
				s = before[i]
			}
			inputs = append(inputs, s)
		}
		next, result, e := interp.Scan(p, memory, inputs, pick(source, 1, 2, api.DaySeconds))
		if e != api.OK {
			t.Fatalf("Scan of %v: %d", p, e)
		}
		memory = next
		var s reach.Step
		for i, n := range p.Nodes {
			if isBinary(n.Block) {
				s = append(s, result.Wires[i][0].N == 1)
			}
		}
		run = append(run, s)
	}
	return run
}

// What really happens is an abstract run, and what is excluded never happens.
func TestP30_3Sound(t *testing.T) {
	source := rand.New(rand.NewSource(303))
	examined, excluded := 0, 0
	for range 1500 {
		p := randomProgram(source, 1+source.Intn(10))
		if newModel(p).isTooLarge() {
			continue
		}
		examined++
		run := realRun(t, source, p)
		if yes, e := reach.Is(p, run); !yes || e != api.OK {
			t.Fatalf("Is of the run %q of %v: %v, %d", text(run), p, yes, e)
		}
		wires, _ := reach.Wires(p)
		for range 3 {
			if len(wires) == 0 {
				break
			}
			i, k := source.Intn(len(wires)), source.Intn(len(wires))
			_, e := reach.Together(p, wires[i], wires[k])
			happens := slices.ContainsFunc(run, func(s reach.Step) bool { return s[i] && s[k] })
			if happens && e != api.OK {
				t.Fatalf("%v and %v are on in %q of %v: %d", wires[i], wires[k], text(run), p, e)
			}
			if e == api.ErrNone {
				excluded++
			}
		}
	}
	if examined < 800 || excluded < 200 {
		t.Errorf("%d programs, %d pairs", examined, excluded)
	}
}

func TestP30_4Consequences(t *testing.T) {
	source := rand.New(rand.NewSource(304))
	long := 0
	for range 600 {
		p := randomProgram(source, 1+source.Intn(9))
		wires, _ := reach.Wires(p)
		if newModel(p).isTooLarge() || len(wires) == 0 {
			continue
		}
		i, k := source.Intn(len(wires)), source.Intn(len(wires))
		run, e := reach.Together(p, wires[i], wires[k])
		other, f := reach.Together(p, wires[k], wires[i])
		if e != f || text(run) != text(other) {
			t.Fatalf("%v: %q, %d, in the other order %q, %d", p, text(run), e, text(other), f)
		}
		ever, e := reach.Ever(p, wires[i])
		self, f := reach.Together(p, wires[i], wires[i])
		if e != f || text(ever) != text(self) {
			t.Fatalf("%v: Ever %q, %d, Together with itself %q, %d", p, text(ever), e, text(self), f)
		}
		for at, s := range run {
			if len(s) != len(wires) || (s[i] && s[k]) != (at == len(run)-1) {
				t.Fatalf("%v: the run %q for the wires %d and %d", p, text(run), i, k)
			}
			if yes, e := reach.Is(p, run[:at+1]); !yes || e != api.OK {
				t.Fatalf("%v: the run %q is none", p, text(run[:at+1]))
			}
		}
		if len(run) > 1 {
			long++
		}
		whole := realRun(t, source, p)
		for at := range whole {
			if yes, e := reach.Is(p, whole[:at]); !yes || e != api.OK {
				t.Fatalf("%v: the beginning %q is none", p, text(whole[:at]))
			}
		}
	}
	if long < 50 {
		t.Errorf("%d runs with more than one step", long)
	}
}

// The order of the nodes changes nothing but that of the wires.
func TestP30_1Order(t *testing.T) {
	source := rand.New(rand.NewSource(305))
	for range 300 {
		p := randomProgram(source, 1+source.Intn(8))
		q := p
		q.Nodes = slices.Clone(p.Nodes)
		slices.Reverse(q.Nodes)
		n, e := reach.Count(p)
		m, f := reach.Count(q)
		if n != m || e != f {
			t.Fatalf("%v: %d, %d, in the other order %d, %d", p, n, e, m, f)
		}
		wires, _ := reach.Wires(p)
		for _, w := range wires {
			run, e := reach.Ever(p, w)
			other, f := reach.Ever(q, w)
			if e != f || len(run) != len(other) {
				t.Fatalf("%v: %q, %d, in the other order %q, %d", p, text(run), e, text(other), f)
			}
		}
	}
}

// spoiled returns a program with a change that may make it wrong.
func spoiled(source *rand.Rand, p api.Program) api.Program {
	p.Nodes, p.Drives = slices.Clone(p.Nodes), slices.Clone(p.Drives)
	number := pick(source, 0, 1, -1, math.MaxInt, math.MinInt)
	name := pick(source, "", "n0", "N", "x", "none")
	value := api.Value{Kind: source.Intn(5), N: int64(number)}
	link := api.Link{Node: pick(source, "", name), Point: pick(source, "", name), Const: pick(source, api.Value{}, value), Delayed: source.Intn(2) == 0, Initial: pick(source, api.Value{}, value)}
	n := &p.Nodes[source.Intn(len(p.Nodes))]
	n.Inputs = slices.Clone(n.Inputs)
	switch source.Intn(7) {
	case 0:
		n.Block = pick(source, append(block.Names(), "none")...)
	case 1:
		n.Inputs = append(n.Inputs, link)
	case 2:
		n.Block = pick(source, n.Block, "ondelay")
		n.Params = append(slices.Clone(n.Params), api.Param{Name: pick(source, "time", "on"), Value: int64(number)})
	case 3:
		n.Name = name
	case 4:
		n.Inputs[0] = link
	case 5:
		p.Drives = append(p.Drives, api.Drive{From: link})
	case 6:
		n.Inputs[0] = fromNode(pick(source, p.Nodes...).Name)
	}
	return p
}

// Whatever the program is, the functions terminate with the first error and nothing else, or without one. Types need not fit.
func TestP30Any(t *testing.T) {
	source := rand.New(rand.NewSource(306))
	errors := map[api.Errno]int{}
	for range 2500 {
		p := spoiled(source, randomProgram(source, 1+source.Intn(20)))
		_, want := interp.Start(p)
		l, e := reach.Wires(p)
		n, f := reach.Count(p)
		yes, g := reach.Is(p, []reach.Step{make(reach.Step, source.Intn(4))})
		run, h := reach.Ever(p, wire(pick(source, p.Nodes...).Name))
		errors[f]++
		if e != want || f != want && (want != api.OK || f != api.ErrTooMany) || g != f {
			t.Fatalf("%v: %d, %d, %d, %d, not %d", p, e, f, g, h, want)
		}
		if f != api.OK && h != f || f == api.OK && h != api.OK && h != api.ErrUnknown && h != api.ErrNone {
			t.Fatalf("%v: %d, Ever %d", p, f, h)
		}
		if e != api.OK && len(l) > 0 || f != api.OK && (n != 0 || yes) || (h == api.OK) != (len(run) > 0) {
			t.Fatalf("%v: %v, %d, %v, %q, %d", p, l, n, yes, text(run), h)
		}
		if _, e := order.Of(p); f == api.OK && e == api.OK && newModel(p).isSmall() {
			explored(t, source, newModel(p), &found{})
		}
	}
	for _, e := range []api.Errno{api.OK, api.ErrUnknown, api.ErrInvalid, api.ErrCycle, api.ErrDuplicate, api.ErrTooMany, api.ErrRange} {
		if errors[e] < 10 {
			t.Errorf("%d programs with the error %d", errors[e], e)
		}
	}
}
