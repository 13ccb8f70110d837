package interp_test

import (
	"cmp"
	"math/rand"
	"reflect"
	"slices"
	"strconv"
	"testing"

	"plenum/api"
	"plenum/block"
	"plenum/interp"
	"plenum/order"
	"plenum/pid"
	"plenum/program"
	"plenum/psychro"
	"plenum/sequencer"
	"plenum/timer"
)

// pick returns one of some things.
func pick[T any](source *rand.Rand, list ...T) T { return list[source.Intn(len(list))] }

// kindOf returns the kind of the values of a port with a type, where T stands for a kind.
func kindOf(text string, any int) int {
	switch text {
	case "binary":
		return api.Binary
	case "multi":
		return api.Multi
	case "T":
		return any
	}
	return api.Analog
}

// randomValue returns a value of a kind.
func randomValue(source *rand.Rand, kind int) api.Value {
	switch kind {
	case api.Binary:
		return binary(source.Int63n(2))
	case api.Multi:
		return multi(1 + source.Int63n(api.MaxStates))
	}
	return pick(source, analog(source.Int63n(60000)), analog(source.Int63n(60000)), analog(source.Int63n(60000)-30000), analog(source.Int63n(3)-1), analog(pick[int64](source, -api.MaxAnalog, api.MaxAnalog)))
}

// pointKinds returns the kinds of the points, by their names.
func pointKinds() map[string]int {
	return map[string]int{"room": api.Analog, "supply": api.Analog, "outside": api.Analog, "button": api.Binary, "fan": api.Binary, "door": api.Binary, "mode": api.Multi, "season": api.Multi}
}

// randomInputs returns values for all points.
func randomInputs(source *rand.Rand) []api.Setting {
	var list []api.Setting
	for _, name := range []string{"button", "door", "fan", "mode", "outside", "room", "season", "supply"} {
		list = append(list, api.Setting{Point: name, Value: randomValue(source, pointKinds()[name])})
	}
	source.Shuffle(len(list), func(i, k int) { list[i], list[k] = list[k], list[i] })
	return list
}

// randomParams returns params of a block without an error.
func randomParams(source *rand.Rand, name string) []api.Param {
	d, _ := block.Find(name)
	for {
		var list []api.Param
		for _, b := range d.Params {
			value := b.Lo + source.Int63n(min(b.Hi-b.Lo, 8)+1)
			if b.Lo < 0 || b.Hi > api.DaySeconds {
				value = min(source.Int63n(60000), b.Hi)
			}
			if source.Intn(3) > 0 {
				list = append(list, api.Param{Name: b.Name, Value: value})
			}
		}
		source.Shuffle(len(list), func(i, k int) { list[i], list[k] = list[k], list[i] })
		if _, e := block.Params(name, list); e == api.OK {
			return list
		}
	}
}

// world is a random program in the making, with the kinds of the outputs of its nodes and with an order.
type world struct {
	source *rand.Rand
	p      api.Program
	kinds  []int
	rank   []int
	// isPlain tells that there are neither delayed links nor blocks with states.
	isPlain bool
}

// link returns a link that gives values of a kind to a node, or to a drive, if the index is -1.
func (w world) link(node, kind int) api.Link {
	isDelayed := !w.isPlain && w.source.Intn(4) == 0
	list := []api.Link{fromConst(randomValue(w.source, kind))}
	for _, name := range []string{"button", "door", "fan", "mode", "outside", "room", "season", "supply"} {
		if pointKinds()[name] == kind {
			list = append(list, fromPoint(name))
		}
	}
	for i, n := range w.p.Nodes {
		if w.kinds[i] == kind && (isDelayed || node < 0 || w.rank[i] < w.rank[node]) {
			list = append(list, fromNode(n.Name), fromNode(n.Name), fromNode(n.Name))
		}
	}
	l := pick(w.source, list...)
	if isDelayed {
		return delayed(l, randomValue(w.source, kind))
	}
	return l
}

// randomProgram returns a program that can run, whose links fit.
func randomProgram(source *rand.Rand, count int, isPlain bool) api.Program {
	w := world{source: source, rank: source.Perm(count), isPlain: isPlain}
	for len(w.p.Nodes) < count {
		d, _ := block.Find(pick(source, block.Names()...))
		if isPlain && d.State > 0 {
			continue
		}
		any := 1 + source.Intn(3)
		w.p.Nodes = append(w.p.Nodes, api.Node{Name: "n" + strconv.Itoa(len(w.p.Nodes)), Block: d.Name, Params: randomParams(source, d.Name)})
		w.kinds = append(w.kinds, kindOf(d.Outputs[0].Type, any))
	}
	for i := range w.p.Nodes {
		n := &w.p.Nodes[i]
		d, _ := block.Find(n.Block)
		ports, _ := block.Inputs(n.Block, len(d.Inputs)+source.Intn(min(d.Most, 3)))
		for _, port := range ports {
			n.Inputs = append(n.Inputs, w.link(i, kindOf(port.Type, w.kinds[i])))
		}
	}
	var from []api.Link
	for range source.Intn(5) {
		from = append(from, w.link(-1, 1+source.Intn(3)))
	}
	w.p.Drives = drives(from...)
	return w.p
}

// model evaluates a program by the definitions. It keeps the states of nodes by their names, and the values of delayed links by their places.
type model struct {
	p      api.Program
	states map[string][]int64
	links  map[string]api.Value
	inputs map[string]api.Value
	dt     int
	// done has the outputs of this scan.
	done map[string]api.Value
	next map[string][]int64
	// e is the first error in the order in which nodes are asked for.
	e api.Errno
}

// newModel returns the model of a program before the first scan.
func newModel(p api.Program) *model {
	m := &model{p: p, states: map[string][]int64{}, links: map[string]api.Value{}}
	for _, n := range p.Nodes {
		d, _ := block.Find(n.Block)
		m.states[n.Name] = make([]int64, d.State)
	}
	m.each(func(place string, l api.Link) { m.links[place] = l.Initial })
	return m
}

// place returns the place of an input of a node, or of a drive of no node.
func place(node string, i int) string { return node + "/" + strconv.Itoa(i) }

// each does something for all delayed links in order.
func (m *model) each(do func(place string, l api.Link)) {
	for _, n := range m.p.Nodes {
		for i, l := range n.Inputs {
			if l.Delayed {
				do(place(n.Name, i), l)
			}
		}
	}
	for i, d := range m.p.Drives {
		if d.From.Delayed {
			do(place("", i), d.From)
		}
	}
}

// memory returns the memory of the model.
func (m *model) memory() interp.Memory {
	var list interp.Memory
	for _, n := range m.p.Nodes {
		list.States = append(list.States, m.states[n.Name])
	}
	m.each(func(place string, _ api.Link) { list.Links = append(list.Links, m.links[place]) })
	return list
}

// present returns the value that a link would have without a delay.
func (m *model) present(l api.Link) api.Value {
	switch {
	case l.Node != "":
		return m.output(l.Node)
	case l.Point != "":
		return m.inputs[l.Point]
	}
	return l.Const
}

// value returns the value of a link at a place.
func (m *model) value(place string, l api.Link) api.Value {
	if l.Delayed {
		return m.links[place]
	}
	return m.present(l)
}

// output returns the output of a node in this scan, for which it asks those of others.
func (m *model) output(name string) api.Value {
	if v, known := m.done[name]; known {
		return v
	}
	at, _ := program.Find(m.p, name)
	n := m.p.Nodes[at]
	var in []api.Value
	for i, l := range n.Inputs {
		in = append(in, m.value(place(name, i), l))
	}
	params, _ := block.Params(n.Block, n.Params)
	state, v, e := step(n.Block, params, m.states[name], in, m.dt)
	m.e = cmp.Or(m.e, e)
	m.done[name], m.next[name] = v, state
	return v
}

// step evaluates a block by the function of its layer.
func step(name string, params, state []int64, in []api.Value, dt int) ([]int64, api.Value, api.Errno) {
	switch name {
	case "count", "edge", "hyst", "latch", "minrun", "offdelay", "ondelay", "pulse":
		return timer.Step(name, params, state, in, dt)
	case "pid", "rate":
		return pid.Step(name, params, state, in, dt)
	case "stage", "steps":
		return sequencer.Step(name, params, state, in, dt)
	case "dewpoint", "enthalpy":
		v, e := psychro.Eval(name, params, in)
		return nil, v, e
	}
	v, e := block.Eval(name, params, in)
	return nil, v, e
}

// scan evaluates the program once and returns the result.
func (m *model) scan(inputs []api.Setting, dt int) interp.Result {
	m.inputs, m.dt, m.done, m.next = map[string]api.Value{}, dt, map[string]api.Value{}, map[string][]int64{}
	for _, s := range inputs {
		m.inputs[s.Point] = s.Value
	}
	var r interp.Result
	for _, n := range m.p.Nodes {
		r.Wires = append(r.Wires, []api.Value{m.output(n.Name)})
	}
	for i, d := range m.p.Drives {
		r.Drives = append(r.Drives, m.value(place("", i), d.From))
	}
	links := map[string]api.Value{}
	m.each(func(place string, l api.Link) { links[place] = m.present(l) })
	m.states, m.links = m.next, links
	return r
}

// isSame reports whether two results are the same.
func isSame(a, b interp.Result) bool {
	return slices.EqualFunc(a.Wires, b.Wires, slices.Equal) && slices.Equal(a.Drives, b.Drives)
}

// randomOrder returns an order of the nodes of a program.
func randomOrder(source *rand.Rand, p api.Program) []int {
	feeds, _ := order.Feeds(p)
	var list []int
	for len(list) < len(p.Nodes) {
		i := source.Intn(len(p.Nodes))
		isWaiting := slices.ContainsFunc(feeds[i], func(k int) bool { return !slices.Contains(list, k) })
		if !isWaiting && !slices.Contains(list, i) {
			list = append(list, i)
		}
	}
	return list
}

// Scan, ScanIn and Run are as defined, and the order does not matter.
func TestP26_2Definitions(t *testing.T) {
	source := rand.New(rand.NewSource(261))
	evaluated := map[string]int{}
	for range 500 {
		p := randomProgram(source, source.Intn(12), false)
		m := newModel(p)
		memory, e := interp.Start(p)
		if e != api.OK || !interp.Same(memory, m.memory()) {
			t.Fatalf("Start of %v: %v, %d", p, memory, e)
		}
		for range 6 {
			inputs, dt := randomInputs(source), pick(source, 1, 2, 3, 1+source.Intn(api.DaySeconds))
			want := m.scan(inputs, dt)
			next, r, e := interp.Scan(p, memory, inputs, dt)
			if m.e != api.OK {
				t.Fatalf("%v: %d", p, m.e)
			}
			if e != api.OK || !isSame(r, want) || !interp.Same(next, m.memory()) {
				t.Fatalf("Scan of %v: %v, %v, %d, not %v", p, next, r, e, want)
			}
			other, s, e := interp.ScanIn(p, randomOrder(source, p), memory, inputs, dt)
			if e != api.OK || !isSame(s, r) || !interp.Same(other, next) {
				t.Fatalf("ScanIn of %v: %v, %v, %d, not %v", p, other, s, e, r)
			}
			memory = next
		}
		for _, n := range p.Nodes {
			evaluated[n.Block]++
		}
	}
	for _, name := range block.Names() {
		if evaluated[name] < 20 {
			t.Errorf("%d nodes with the block %s", evaluated[name], name)
		}
	}
}

// randomLists returns so many lists of values for all points.
func randomLists(source *rand.Rand, count int) [][]api.Setting {
	var lists [][]api.Setting
	for range count {
		lists = append(lists, randomInputs(source))
	}
	return lists
}

func TestP26_2RunDefinition(t *testing.T) {
	source := rand.New(rand.NewSource(262))
	for range 300 {
		p, lists, dt := randomProgram(source, source.Intn(10), false), randomLists(source, source.Intn(9)), 1+source.Intn(20)
		got, e := interp.Run(p, lists, dt)
		m := newModel(p)
		var want [][]api.Value
		for _, inputs := range lists {
			want = append(want, m.scan(inputs, dt).Drives)
		}
		if e != api.OK || !slices.EqualFunc(got, want, slices.Equal) {
			t.Fatalf("Run of %v: %v, %d, not %v", p, got, e, want)
		}
	}
}

// Nodes that are not used do not change what the drives get.
func TestP26_3Unused(t *testing.T) {
	source := rand.New(rand.NewSource(263))
	removed := 0
	for range 300 {
		p, lists := randomProgram(source, source.Intn(12), false), randomLists(source, 5)
		q, _ := program.Used(p)
		removed += len(p.Nodes) - len(q.Nodes)
		got, e := interp.Run(p, lists, 2)
		want, f := interp.Run(q, lists, 2)
		if e != api.OK || f != api.OK || !slices.EqualFunc(got, want, slices.Equal) {
			t.Fatalf("%v: %v, %d, without the nodes that are not used %v, %d", p, got, e, want, f)
		}
	}
	if removed < 300 {
		t.Errorf("%d nodes are not used", removed)
	}
}

// Inputs that no link reads do not matter, nor does the order of the inputs.
func TestP26_3Inputs(t *testing.T) {
	source := rand.New(rand.NewSource(264))
	for range 200 {
		p, inputs := randomProgram(source, source.Intn(8), false), randomInputs(source)
		m, _ := interp.Start(p)
		next, r, e := interp.Scan(p, m, inputs, 7)
		reads := program.Reads(p)
		few := slices.DeleteFunc(slices.Clone(inputs), func(s api.Setting) bool { return !slices.Contains(reads, s.Point) })
		source.Shuffle(len(few), func(i, k int) { few[i], few[k] = few[k], few[i] })
		more := append(slices.Clone(few), api.Setting{Point: "n0", Value: analog(5)}, api.Setting{Value: multi(1)}, api.Setting{Point: "no point", Value: api.Value{Kind: 8}})
		for _, list := range [][]api.Setting{few, more} {
			other, s, f := interp.Scan(p, m, list, 7)
			if e != api.OK || f != api.OK || !interp.Same(next, other) || !isSame(r, s) {
				t.Fatalf("%v with %v: %v, %v, %d, with %v: %v, %v, %d", p, inputs, next, r, e, list, other, s, f)
			}
		}
	}
}

// Without delayed links and blocks with states, a scan depends on its inputs only.
func TestP26_3Plain(t *testing.T) {
	source := rand.New(rand.NewSource(265))
	for range 200 {
		p, lists := randomProgram(source, 1+source.Intn(8), true), randomLists(source, 3)
		m, _ := interp.Start(p)
		forward, e := interp.Run(p, lists, 1)
		slices.Reverse(lists)
		backward, f := interp.Run(p, lists, api.DaySeconds)
		slices.Reverse(backward)
		if e != api.OK || f != api.OK || !slices.EqualFunc(forward, backward, slices.Equal) {
			t.Fatalf("%v: %v, %d, in the other order %v, %d", p, forward, e, backward, f)
		}
		next, r, _ := interp.Scan(p, m, lists[0], 1)
		_, s, _ := interp.Scan(p, next, lists[0], 99)
		if !interp.Same(m, next) || !reflect.DeepEqual(r, s) {
			t.Fatalf("%v: %v, %v, and then %v", p, next, r, s)
		}
	}
}
