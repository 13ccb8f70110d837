package compile_test

import (
	"math/rand"
	"reflect"
	"slices"
	"strconv"
	"testing"

	"plenum/api"
	"plenum/block"
	"plenum/compile"
	"plenum/interp"
	"plenum/machine"
	"plenum/order"
	"plenum/program"
	"plenum/typing"
)

// pick returns one of some things.
func pick[T any](source *rand.Rand, list ...T) T { return list[source.Intn(len(list))] }

// randomValue returns a value of a kind that fits a port, and often a point.
func randomValue(source *rand.Rand, kind int) api.Value {
	switch kind {
	case api.Binary:
		return binary(source.Int63n(2))
	case api.Multi:
		return multi(pick(source, 1, 2, 1+source.Int63n(api.MaxStates)))
	}
	return analog(pick(source, source.Int63n(60000), source.Int63n(60000)-30000, source.Int63n(3)-1, pick[int64](source, -api.MaxAnalog, api.MaxAnalog)))
}

// randomLink returns a link from a constant, a point, or one of some nodes, perhaps delayed.
func randomLink(source *rand.Rand, nodes []api.Node) api.Link {
	var l api.Link
	switch choice := source.Intn(5); {
	case choice == 0:
		l.Const = randomValue(source, 1+source.Intn(3))
	case choice < 3 || len(nodes) == 0:
		l.Point = pick(source, points()...).Name
	default:
		l.Node = pick(source, nodes...).Name
	}
	if source.Intn(4) == 0 {
		l.Delayed, l.Initial = true, randomValue(source, 1+source.Intn(3))
	}
	return l
}

// randomParams returns params of a block without an error, sorted by name.
func randomParams(source *rand.Rand, name string) []api.Param {
	d, _ := block.Find(name)
	for {
		var list []api.Param
		for _, b := range d.Params {
			value := b.Lo + source.Int63n(min(b.Hi-b.Lo, 8)+1)
			if b.Lo < 0 || b.Hi > api.DaySeconds {
				value = min(source.Int63n(60000), b.Hi)
			}
			if source.Intn(3) > 0 {
				list = append(list, api.Param{Name: b.Name, Value: value})
			}
		}
		slices.SortFunc(list, func(a, b api.Param) int { return map[bool]int{true: -1, false: 1}[a.Name < b.Name] })
		if _, e := block.Params(name, list); e == api.OK {
			return list
		}
	}
}

// grown returns a program with a node more whose types fit, or the program itself if chance does not find one.
func grown(source *rand.Rand, p api.Program) api.Program {
	name := pick(source, block.Names()...)
	d, _ := block.Find(name)
	n := api.Node{Name: "n" + strconv.Itoa(len(p.Nodes)), Block: name, Params: randomParams(source, name)}
	count := len(d.Inputs) + source.Intn(min(d.Most, 3))
	for range 40 * count {
		// The inputs are found one by one, as far as this program tells whether they fit: with the last one repeated.
		l := randomLink(source, append(slices.Clone(p.Nodes), n))
		trial := n
		trial.Inputs = append(slices.Clone(n.Inputs), l)
		whole := trial
		for len(whole.Inputs) < count {
			whole.Inputs = append(slices.Clone(whole.Inputs), fitting(d, len(whole.Inputs), whole.Inputs))
		}
		q := p
		q.Nodes = append(slices.Clone(p.Nodes), whole)
		if !canBeCompiled(q) {
			continue
		}
		if n = trial; len(n.Inputs) == count {
			return q
		}
	}
	return p
}

// fitting returns a link that may fit an input of a block behind others.
func fitting(d api.Descriptor, at int, before []api.Link) api.Link {
	port := d.Inputs[min(at, len(d.Inputs)-1)]
	switch port.Type {
	case "binary":
		return api.Link{Const: binary(1)}
	case "T":
		return before[len(before)-1]
	}
	return api.Link{Const: analog(1000)}
}

// fed returns a program in which some inputs come from any nodes, most of them with a delay, as far as the types fit.
func fed(source *rand.Rand, p api.Program) api.Program {
	for range 3 * len(p.Nodes) {
		at := source.Intn(len(p.Nodes))
		n := p.Nodes[at]
		if len(n.Inputs) == 0 {
			continue
		}
		n.Inputs = slices.Clone(n.Inputs)
		l := api.Link{Node: pick(source, p.Nodes...).Name}
		if source.Intn(4) > 0 {
			l.Delayed, l.Initial = true, randomValue(source, 1+source.Intn(3))
		}
		n.Inputs[source.Intn(len(n.Inputs))] = l
		q := p
		q.Nodes = slices.Clone(p.Nodes)
		q.Nodes[at] = n
		if canBeCompiled(q) {
			p = q
		}
	}
	return p
}

// canBeCompiled reports whether the types of a program fit and it has an order.
func canBeCompiled(p api.Program) bool {
	_, e := typing.Infer(p, points())
	_, f := order.Of(p)
	return e == api.OK && f == api.OK
}

// randomProgram returns a program that can be compiled, with about so many nodes in any order.
func randomProgram(source *rand.Rand, count int) api.Program {
	p := api.Program{Name: "p" + strconv.Itoa(count), Period: 1 + source.Intn(api.DaySeconds)}
	for range count {
		p = grown(source, p)
	}
	p = fed(source, p)
	for _, x := range points() {
		for range 12 {
			q := p
			d := api.Drive{Point: x.Name, Level: pick(source, 3, 4, 5, 7, 9, 10, 16), From: randomLink(source, p.Nodes)}
			if q.Drives = append(slices.Clone(p.Drives), d); x.Role != api.Input && canBeCompiled(q) {
				p = q
				break
			}
		}
	}
	q := p
	q.Nodes = slices.Clone(p.Nodes)
	source.Shuffle(len(q.Nodes), func(i, k int) { q.Nodes[i], q.Nodes[k] = q.Nodes[k], q.Nodes[i] })
	if canBeCompiled(q) {
		return q
	}
	return p
}

// randomInputs returns lists of values that fit the inputs of a unit, and the same ones with the names of the points.
func randomInputs(source *rand.Rand, u compile.Unit, count int) ([][]api.Value, [][]api.Setting) {
	lists, settings := make([][]api.Value, count), make([][]api.Setting, count)
	for i := range count {
		for k, port := range u.Inputs {
			v := randomValue(source, port.Kind)
			// Values often stay, so that times can pass.
			if i > 0 && source.Intn(3) > 0 {
				v = lists[i-1][k]
			}
			lists[i], settings[i] = append(lists[i], v), append(settings[i], api.Setting{Point: port.Point, Value: v})
		}
	}
	return lists, settings
}

// isSame reports whether lists of values are the same.
func isSame(a, b [][]api.Value) bool { return slices.EqualFunc(a, b, slices.Equal) }

// A unit does what the interpreter does, and its ports are those of the program.
func TestP28_1Definitions(t *testing.T) {
	source := rand.New(rand.NewSource(281))
	nodes, links := map[string]int{}, map[string]int{}
	for range 250 {
		p := randomProgram(source, source.Intn(10))
		u := compiled(t, p)
		var reads []string
		for _, port := range u.Inputs {
			reads = append(reads, port.Point)
		}
		if u.Name != p.Name || u.Period != p.Period || !slices.Equal(reads, program.Reads(p)) || len(u.Outputs) != len(p.Drives) {
			t.Fatalf("%v has the unit %v", p, u)
		}
		for i, d := range p.Drives {
			at := slices.IndexFunc(points(), func(x api.Point) bool { return x.Name == d.Point })
			if want := (compile.Port{Point: d.Point, Kind: points()[at].Kind, Level: d.Level}); u.Outputs[i] != want {
				t.Fatalf("%v has the output %v, not %v", p, u.Outputs[i], want)
			}
		}
		lists, settings := randomInputs(source, u, 12)
		dt := pick(source, 1, 2, 3, 1+source.Intn(api.DaySeconds))
		got, e := compile.Run(u, lists, dt)
		want, f := interp.Run(p, settings, dt)
		if e != api.OK || f != api.OK || !isSame(got, want) {
			t.Fatalf("Run of %v with %v: %v, %d, not %v, %d", p, settings, got, e, want, f)
		}
		for _, n := range p.Nodes {
			nodes[n.Block]++
		}
		for _, l := range program.Links(p) {
			links[strconv.FormatBool(l.Delayed)+map[bool]string{true: " node"}[l.Node != ""]+map[bool]string{true: " point"}[l.Point != ""]]++
		}
	}
	for _, name := range block.Names() {
		if nodes[name] < 10 {
			t.Errorf("%d nodes have the block %s", nodes[name], name)
		}
	}
	if len(links) != 6 || links["true node"] < 100 || links["true point"] < 60 || links["true"] < 20 {
		t.Errorf("the links: %v", links)
	}
}

// Scan does what the interpreter does, with other times between the scans, too.
func TestP28_3Definitions(t *testing.T) {
	source := rand.New(rand.NewSource(283))
	for range 80 {
		p := randomProgram(source, source.Intn(9))
		u := compiled(t, p)
		lists, settings := randomInputs(source, u, 8)
		state, before := u.Initial, slices.Clone(u.Initial)
		memory, _ := interp.Start(p)
		for i, list := range lists {
			dt := pick(source, 1, 5, 1+source.Intn(api.DaySeconds), api.DaySeconds)
			got, next, e := compile.Scan(u, state, list, dt)
			after, result, f := interp.Scan(p, memory, settings[i], dt)
			if e != api.OK || f != api.OK || !slices.Equal(got, result.Drives) || len(next) != len(state) {
				t.Fatalf("Scan of %v with %v: %v, %v, %d, not %v, %d", p, settings[i], got, next, e, result.Drives, f)
			}
			state, memory = next, after
		}
		if !slices.Equal(u.Initial, before) {
			t.Fatalf("the state at first was changed: %v, not %v", u.Initial, before)
		}
	}
}

// A program and the same one without the nodes that are not used have the same outputs.
func TestP28_5Used(t *testing.T) {
	source := rand.New(rand.NewSource(285))
	removed := 0
	for range 80 {
		p := randomProgram(source, source.Intn(12))
		q, _ := program.Used(p)
		if !canBeCompiled(q) {
			continue
		}
		removed += len(p.Nodes) - len(q.Nodes)
		u, v := compiled(t, p), compiled(t, q)
		lists, _ := randomInputs(source, u, 8)
		var fewer [][]api.Value
		for _, list := range lists {
			var values []api.Value
			for i, port := range u.Inputs {
				if slices.Contains(v.Inputs, port) {
					values = append(values, list[i])
				}
			}
			fewer = append(fewer, values)
		}
		got, e := compile.Run(u, lists, 3)
		want, f := compile.Run(v, fewer, 3)
		if e != api.OK || f != api.OK || !isSame(got, want) || !slices.Equal(u.Outputs, v.Outputs) {
			t.Fatalf("%v: %v, %d, without the nodes that are not used %v, %d", p, got, e, want, f)
		}
	}
	if removed < 60 {
		t.Errorf("%d nodes are not used", removed)
	}
}

// Decode of the encoding of a unit is the unit, and it runs the same.
func TestP28_5Decode(t *testing.T) {
	source := rand.New(rand.NewSource(286))
	for range 80 {
		u := compiled(t, randomProgram(source, source.Intn(10)))
		s, e := compile.Encode(u)
		v, f := compile.Decode(s)
		if e != api.OK || f != api.OK || !compile.Equal(u, v) || !compile.Equal(v, u) {
			t.Fatalf("Decode of the encoding of %v: %v, %d, %d", u, v, e, f)
		}
		lists, _ := randomInputs(source, u, 5)
		got, e := compile.Run(v, lists, 7)
		want, f := compile.Run(u, lists, 7)
		if e != api.OK || f != api.OK || !isSame(got, want) {
			t.Fatalf("Run of %v: %v, %d, not %v, %d", v, got, e, want, f)
		}
	}
}

// No run takes more steps than the machine says, and the order of the nodes does not matter.
func TestP28_1Order(t *testing.T) {
	source := rand.New(rand.NewSource(287))
	for range 60 {
		p := randomProgram(source, source.Intn(10))
		q := p
		q.Nodes = slices.Clone(p.Nodes)
		slices.Reverse(q.Nodes)
		if !canBeCompiled(q) {
			continue
		}
		u, v := compiled(t, p), compiled(t, q)
		lists, _ := randomInputs(source, u, 5)
		got, e := compile.Run(u, lists, 1)
		want, f := compile.Run(v, lists, 1)
		if e != api.OK || f != api.OK || !isSame(got, want) || !reflect.DeepEqual(u.Inputs, v.Inputs) {
			t.Fatalf("%v: %v, %d, in the other order %v, %d", p, got, e, want, f)
		}
		if n, e := machine.Steps(u.Code); e != api.OK || n > machine.MaxInstrs {
			t.Fatalf("%v takes %d steps, %d", p, n, e)
		}
	}
}
