package program_test

import (
	"math/rand"
	"reflect"
	"slices"
	"strconv"
	"strings"
	"testing"

	"plenum/api"
	"plenum/block"
	"plenum/lexer"
	"plenum/program"
)

// analog, binary and multi make values.
func analog(n int64) api.Value { return api.Value{Kind: api.Analog, N: n} }
func binary(n int64) api.Value { return api.Value{Kind: api.Binary, N: n} }
func multi(n int64) api.Value  { return api.Value{Kind: api.Multi, N: n} }

// fromNode, fromPoint and fromConst make links, and delayed makes one delayed.
func fromNode(name string) api.Link  { return api.Link{Node: name} }
func fromPoint(name string) api.Link { return api.Link{Point: name} }
func fromConst(v api.Value) api.Link { return api.Link{Const: v} }
func delayed(l api.Link, v api.Value) api.Link {
	l.Delayed, l.Initial = true, v
	return l
}

// points are points over which the sample is valid. The last one does not count.
func points() []api.Point {
	return []api.Point{
		{Name: "temp", Kind: api.Analog, Role: api.Input}, {Name: "button", Kind: api.Binary, Role: api.Input},
		{Name: "valve", Kind: api.Analog, Role: api.Output}, {Name: "fan", Kind: api.Binary, Role: api.Output}, {Name: "mode", Kind: api.Multi, Role: api.Held},
		{Name: "valve", Kind: api.Binary, Role: api.Input},
	}
}

// sample is a program with nodes and links of every kind.
func sample() api.Program {
	return api.Program{
		Name: "ahu", Period: 5,
		Nodes: []api.Node{
			{Name: "err", Block: "sub", Inputs: []api.Link{fromPoint("temp"), fromConst(analog(20500))}},
			{Name: "out", Block: "limit", Params: []api.Param{{Name: "high", Value: 100000}, {Name: "low", Value: -5}}, Inputs: []api.Link{fromNode("err")}},
			{Name: "late", Block: "ondelay", Params: []api.Param{{Name: "time", Value: 60}}, Inputs: []api.Link{delayed(fromPoint("button"), binary(1))}},
			{Name: "run", Block: "or", Inputs: []api.Link{fromNode("late"), delayed(fromNode("run"), binary(0)), delayed(fromConst(binary(0)), binary(1))}},
			{Name: "stages", Block: "stage", Params: []api.Param{{Name: "down", Value: -250}, {Name: "stages", Value: 3}, {Name: "up", Value: 1}}, Inputs: []api.Link{delayed(fromNode("out"), analog(-1))}},
			{Name: "keep", Block: "minrun", Params: []api.Param{{Name: "off", Value: 120}, {Name: "on", Value: 60}}, Inputs: []api.Link{fromNode("run")}},
			{Name: "warm", Block: "hyst", Params: []api.Param{{Name: "off", Value: 120}, {Name: "on", Value: 160}}, Inputs: []api.Link{fromNode("err")}},
		},
		Drives: []api.Drive{
			{Point: "valve", Level: 10, From: fromNode("out")},
			{Point: "fan", Level: 3, From: delayed(fromNode("keep"), binary(0))},
			{Point: "mode", Level: 16, From: fromConst(multi(2))},
		},
	}
}

// sampleSource is the canonical source of the sample.
const sampleSource = `program ahu period 5:
  node err sub:
    in point temp
    in analog 20.5
  node out limit:
    param high 100
    param low -0.005
    in node err
  node late ondelay:
    param time 60
    in point button delayed binary on
  node run or:
    in node late
    in node run delayed binary off
    in binary off delayed binary on
  node stages stage:
    param down -0.25
    param stages 3
    param up 0.001
    in node out delayed analog -0.001
  node keep minrun:
    param off 120
    param on 60
    in node run
  node warm hyst:
    param off 0.12
    param on 0.16
    in node err
  drive valve level 10 from node out
  drive fan level 3 from node keep delayed binary off
  drive mode level 16 from multi 2
`

// changed returns a program in new memory, with changes.
func changed(p api.Program, changes ...func(p *api.Program)) api.Program {
	p.Nodes, p.Drives = slices.Clone(p.Nodes), slices.Clone(p.Drives)
	for i, n := range p.Nodes {
		p.Nodes[i].Params, p.Nodes[i].Inputs = slices.Clone(n.Params), slices.Clone(n.Inputs)
	}
	for _, change := range changes {
		change(&p)
	}
	return p
}

// pick returns one of some things.
func pick[T any](source *rand.Rand, list ...T) T { return list[source.Intn(len(list))] }

// randomLink returns a formed link, perhaps from one of some nodes.
func randomLink(source *rand.Rand, nodes []string) api.Link {
	constant := func() api.Value {
		return pick(source, analog(source.Int63n(2*api.MaxAnalog+1)-api.MaxAnalog), analog(0), analog(-1), binary(0), binary(1), multi(1+source.Int63n(api.MaxStates)))
	}
	l := pick(source, fromConst(constant()), fromPoint(points()[source.Intn(5)].Name))
	if len(nodes) > 0 && source.Intn(3) > 0 {
		l = fromNode(pick(source, nodes...))
	}
	if source.Intn(4) == 0 {
		l = delayed(l, constant())
	}
	return l
}

// randomNode returns a node of a random block, with params that have no error.
func randomNode(source *rand.Rand, name string, nodes []string) api.Node {
	d, _ := block.Find(pick(source, block.Names()...))
	n := api.Node{Name: name, Block: d.Name}
	for range len(d.Inputs) + source.Intn(d.Most) {
		n.Inputs = append(n.Inputs, randomLink(source, nodes))
	}
	for _, b := range d.Params {
		if source.Intn(2) == 0 {
			n.Params = append(n.Params, api.Param{Name: b.Name, Value: pick(source, b.Lo, b.Hi, b.Default, b.Lo+source.Int63n(b.Hi-b.Lo+1))})
		}
	}
	slices.SortFunc(n.Params, func(a, b api.Param) int { return strings.Compare(a.Name, b.Name) })
	if _, e := block.Params(n.Block, n.Params); e != api.OK {
		n.Params = nil
	}
	return n
}

// randomProgram returns a valid program.
func randomProgram(source *rand.Rand) api.Program {
	p := api.Program{Name: "p", Period: pick(source, 1, api.DaySeconds, 1+source.Intn(api.DaySeconds))}
	var nodes []string
	for i := range source.Intn(7) {
		nodes = append(nodes, "n"+strconv.Itoa(i))
	}
	for _, name := range nodes {
		p.Nodes = append(p.Nodes, randomNode(source, name, nodes))
	}
	for _, name := range []string{"valve", "fan", "mode"} {
		if source.Intn(2) == 0 {
			p.Drives = append(p.Drives, api.Drive{Point: name, Level: pick(source, 3, 4, 5, 7, 9, 10, 11, 12, 13, 14, 15, 16), From: randomLink(source, nodes)})
		}
	}
	source.Shuffle(len(p.Drives), func(i, k int) { p.Drives[i], p.Drives[k] = p.Drives[k], p.Drives[i] })
	return p
}

// oddString returns a string, often no name, of few different ones.
func oddString(source *rand.Rand) string {
	return pick(source, "", "", "a", "b", "c", "d", "a", "b", "c", "d", "A", "a b", "\xff", strings.Repeat("a", 25))
}

// oddProgram returns any program.
func oddProgram(source *rand.Rand) api.Program {
	link := func() api.Link {
		l := api.Link{Node: oddString(source), Point: oddString(source), Port: source.Intn(20) / 19, Delayed: source.Intn(4) == 0}
		if source.Intn(4) == 0 {
			l.Const, l.Initial = api.Value{Kind: source.Intn(5), N: source.Int63n(3)}, analog(1)
		}
		return l
	}
	p := api.Program{Name: oddString(source), Period: source.Intn(9) - 3}
	for range source.Intn(6) {
		n := api.Node{Name: oddString(source), Block: oddString(source)}
		for range source.Intn(4) {
			n.Inputs = append(n.Inputs, link())
			n.Params = append(n.Params, api.Param{Name: oddString(source), Value: source.Int63() - source.Int63()})
		}
		p.Nodes = append(p.Nodes, n)
	}
	for range source.Intn(4) {
		p.Drives = append(p.Drives, api.Drive{Point: oddString(source), Level: source.Intn(20) - 2, From: link()})
	}
	return p
}

func TestP23_2Equal(t *testing.T) {
	p := sample()
	if !program.Equal(p, changed(p)) || !program.Equal(api.Program{}, api.Program{Nodes: []api.Node{}, Drives: []api.Drive{}}) {
		t.Error("the same programs are not equal")
	}
	bare, empty := api.Program{Nodes: []api.Node{{}}}, api.Program{Nodes: []api.Node{{Params: []api.Param{}, Inputs: []api.Link{}}}}
	if !program.Equal(bare, empty) {
		t.Error("nil and empty lists are not equal")
	}
	for i, change := range []func(p *api.Program){
		func(p *api.Program) { p.Name = "b" }, func(p *api.Program) { p.Period = 6 }, func(p *api.Program) { p.Nodes = p.Nodes[1:] }, func(p *api.Program) { p.Nodes = nil }, func(p *api.Program) { p.Drives = p.Drives[:1] }, func(p *api.Program) { p.Drives = nil },
		func(p *api.Program) { p.Nodes[0], p.Nodes[1] = p.Nodes[1], p.Nodes[0] }, func(p *api.Program) { p.Drives[0], p.Drives[1] = p.Drives[1], p.Drives[0] },
		func(p *api.Program) { p.Nodes[6].Name = "b" }, func(p *api.Program) { p.Nodes[6].Block = "add" }, func(p *api.Program) { p.Nodes[1].Params[1].Value++ }, func(p *api.Program) { p.Nodes[1].Params[1].Name = "b" }, func(p *api.Program) { p.Nodes[1].Params = p.Nodes[1].Params[:1] }, func(p *api.Program) { p.Nodes[0].Inputs = p.Nodes[0].Inputs[:1] },
		func(p *api.Program) { n := p.Nodes[1]; n.Params[0], n.Params[1] = n.Params[1], n.Params[0] }, func(p *api.Program) { n := p.Nodes[0]; n.Inputs[0], n.Inputs[1] = n.Inputs[1], n.Inputs[0] },
		func(p *api.Program) { p.Nodes[0].Inputs[0].Node = "x" }, func(p *api.Program) { p.Nodes[0].Inputs[0].Point = "x" }, func(p *api.Program) { p.Nodes[0].Inputs[0].Port = 1 }, func(p *api.Program) { p.Nodes[0].Inputs[1].Const.N = 1 }, func(p *api.Program) { p.Nodes[0].Inputs[0].Delayed = true }, func(p *api.Program) { p.Nodes[0].Inputs[0].Initial.N = 1 },
		func(p *api.Program) { p.Drives[2].Point = "x" }, func(p *api.Program) { p.Drives[2].Level = 4 }, func(p *api.Program) { p.Drives[2].From.Node = "x" }, func(p *api.Program) { p.Drives[1].From.Initial.N = 1 },
	} {
		if q := changed(p, change); program.Equal(p, q) || program.Equal(q, p) {
			t.Errorf("change %d is not noticed", i)
		}
	}
}

func TestP23_3Find(t *testing.T) {
	p := changed(sample(), func(p *api.Program) {
		p.Nodes[3].Name, p.Nodes[4].Name, p.Nodes[5].Name, p.Nodes[6].Name = "err", "", "A/b", ""
	})
	for name, want := range map[string]int{"err": 0, "out": 1, "late": 2, "": 4, "A/b": 5} {
		if i, e := program.Find(p, name); i != want || e != api.OK {
			t.Errorf("Find of %q: %d, %d", name, i, e)
		}
	}
	for _, name := range []string{"ou", "outt", "Out", "temp", "valve", "a", " err"} {
		if i, e := program.Find(p, name); i != 0 || e != api.ErrUnknown {
			t.Errorf("Find of %q: %d, %d", name, i, e)
		}
	}
	if i, e := program.Find(api.Program{}, ""); i != 0 || e != api.ErrUnknown {
		t.Errorf("Find without nodes: %d, %d", i, e)
	}
}

func TestP23_3Lists(t *testing.T) {
	p := sample()
	want := []api.Link{
		fromPoint("temp"), fromConst(analog(20500)), fromNode("err"), delayed(fromPoint("button"), binary(1)), fromNode("late"), delayed(fromNode("run"), binary(0)), delayed(fromConst(binary(0)), binary(1)),
		delayed(fromNode("out"), analog(-1)), fromNode("run"), fromNode("err"), fromNode("out"), delayed(fromNode("keep"), binary(0)), fromConst(multi(2)),
	}
	if list := program.Links(p); !slices.Equal(list, want) {
		t.Errorf("Links: %v", list)
	}
	if list := program.Reads(p); !slices.Equal(list, []string{"button", "temp"}) {
		t.Errorf("Reads: %v", list)
	}
	if list := program.Drives(p); !slices.Equal(list, []string{"fan", "mode", "valve"}) {
		t.Errorf("Drives: %v", list)
	}
	if len(program.Links(api.Program{}))+len(program.Reads(api.Program{}))+len(program.Drives(api.Program{})) != 0 {
		t.Error("lists of the empty program")
	}
	// Points of drives, names of nodes and links without points are not read; links of drives are. Strings that are no names count, too.
	odd := api.Program{
		Nodes:  []api.Node{{Name: "x", Inputs: []api.Link{{Point: "b"}, {Point: "\xff"}, {Point: "B", Node: "x"}, {Node: "x"}, {}}}, {Name: "x", Inputs: []api.Link{{Point: "b", Delayed: true}}}},
		Drives: []api.Drive{{Point: "d", From: api.Link{Point: "a"}}, {Point: "c"}, {Point: "d"}, {Point: "D"}},
	}
	if list := program.Reads(odd); !slices.Equal(list, []string{"B", "a", "b", "\xff"}) {
		t.Errorf("Reads: %q", list)
	}
	if list := program.Drives(odd); !slices.Equal(list, []string{"D", "c", "d"}) {
		t.Errorf("Drives: %q", list)
	}
}

// set returns the strings of a list that a test accepts, sorted, each once.
func set(list []string, accepts func(s string) bool) []string {
	has := map[string]bool{}
	for _, s := range list {
		has[s] = accepts(s)
	}
	var out []string
	for s, is := range has {
		if is {
			out = append(out, s)
		}
	}
	slices.Sort(out)
	return out
}

func TestP23_3AnyPrograms(t *testing.T) {
	source := rand.New(rand.NewSource(233))
	for range 5000 {
		p := oddProgram(source)
		before := changed(p)
		var all []api.Link
		var read, driven []string
		for i, n := range p.Nodes {
			all = append(all, n.Inputs...)
			if at, e := program.Find(p, n.Name); e != api.OK || at > i || p.Nodes[at].Name != n.Name {
				t.Fatalf("Find of %q in %v: %d, %d", n.Name, p, at, e)
			}
		}
		for _, d := range p.Drives {
			all = append(all, d.From)
			driven = append(driven, d.Point)
		}
		for _, l := range all {
			read = append(read, l.Point)
		}
		if list := program.Links(p); !slices.Equal(list, all) {
			t.Fatalf("Links of %v: %v", p, list)
		}
		if list, want := program.Reads(p), set(read, func(s string) bool { return s != "" }); !slices.Equal(list, want) {
			t.Fatalf("Reads of %v: %q, not %q", p, list, want)
		}
		if list, want := program.Drives(p), set(driven, func(string) bool { return true }); !slices.Equal(list, want) {
			t.Fatalf("Drives of %v: %q, not %q", p, list, want)
		}
		if !program.Equal(p, before) || !reflect.DeepEqual(p, before) {
			t.Fatalf("%v was changed to %v", before, p)
		}
	}
}

// isUsed reports whether a node is used, by the definition: a drive leads to it in at most so many steps.
func isUsed(p api.Program, i, steps int) bool {
	leads := func(l api.Link) bool {
		at, e := program.Find(p, l.Node)
		return l.Node != "" && e == api.OK && at == i
	}
	if slices.ContainsFunc(p.Drives, func(d api.Drive) bool { return leads(d.From) }) {
		return true
	}
	for k, n := range p.Nodes {
		if steps > 0 && slices.ContainsFunc(n.Inputs, leads) && isUsed(p, k, steps-1) {
			return true
		}
	}
	return false
}

// used is Used by the definition.
func used(p api.Program) (api.Program, api.Errno) {
	q := changed(p)
	q.Nodes = nil
	var leading []api.Link
	for i, n := range p.Nodes {
		if isUsed(p, i, len(p.Nodes)) {
			q.Nodes = append(q.Nodes, n)
			leading = append(leading, n.Inputs...)
		}
	}
	for _, d := range p.Drives {
		leading = append(leading, d.From)
	}
	for _, l := range leading {
		if _, e := program.Find(p, l.Node); l.Node != "" && e != api.OK {
			return api.Program{}, api.ErrUnknown
		}
	}
	return q, api.OK
}

func TestP23_4Used(t *testing.T) {
	p := sample()
	want := changed(p, func(p *api.Program) { p.Nodes = []api.Node{p.Nodes[0], p.Nodes[1], p.Nodes[2], p.Nodes[3], p.Nodes[5]} })
	if q, e := program.Used(p); e != api.OK || !program.Equal(q, want) {
		t.Errorf("Used: %v, %d", q, e)
	}
	// A node that only an unused one needs is not used, nor is a cycle by itself.
	idle := changed(p, func(p *api.Program) { p.Drives = p.Drives[2:] })
	if q, e := program.Used(idle); e != api.OK || len(q.Nodes) != 0 || !slices.Equal(q.Drives, idle.Drives) || q.Name != "ahu" || q.Period != 5 {
		t.Errorf("Used without links of drives: %v, %d", q, e)
	}
	// What unused nodes lead to need not exist.
	lost := changed(p, func(p *api.Program) { p.Nodes[6].Inputs[0].Node = "none" })
	if q, e := program.Used(lost); e != api.OK || !program.Equal(q, want) {
		t.Errorf("Used with an unused node that leads nowhere: %v, %d", q, e)
	}
	for i, change := range []func(p *api.Program){
		func(p *api.Program) { p.Drives[0].From.Node = "none" }, func(p *api.Program) { p.Drives[1].From.Node = "none" }, func(p *api.Program) { p.Nodes[3].Inputs[1].Node = "none" }, func(p *api.Program) { p.Nodes[0].Inputs[0] = fromNode("temp") }, func(p *api.Program) { p.Nodes[0].Inputs[0].Node = "none" },
	} {
		if q, e := program.Used(changed(p, change)); e != api.ErrUnknown || !reflect.DeepEqual(q, api.Program{}) {
			t.Errorf("Used %d: %v, %d", i, q, e)
		}
	}
	// Links lead to the first node with a name; a node whose name is empty is not led to.
	twice := api.Program{Nodes: []api.Node{{Name: ""}, {Name: "a", Block: "x"}, {Name: "a", Inputs: []api.Link{{Node: "none"}}}}, Drives: []api.Drive{{From: api.Link{Node: "a"}}, {}}}
	if q, e := program.Used(twice); e != api.OK || len(q.Nodes) != 1 || q.Nodes[0].Block != "x" || len(q.Drives) != 2 {
		t.Errorf("Used with two nodes of one name: %v, %d", q, e)
	}
}

func TestP23_4UsedAnyPrograms(t *testing.T) {
	source := rand.New(rand.NewSource(234))
	found := map[api.Errno]int{}
	for i := range 20000 {
		p := oddProgram(source)
		if i%3 == 0 {
			p = randomProgram(source)
		}
		before := changed(p)
		want, wantError := used(p)
		q, e := program.Used(p)
		if e != wantError || !program.Equal(q, want) || e != api.OK && !reflect.DeepEqual(q, api.Program{}) {
			t.Fatalf("Used of %v: %v, %d, not %v, %d", p, q, e, want, wantError)
		}
		if !reflect.DeepEqual(p, before) {
			t.Fatalf("Used changed %v", before)
		}
		found[e]++
	}
	if found[api.OK] < 1000 || found[api.ErrUnknown] < 1000 {
		t.Errorf("the results: %v", found)
	}
}

// A chain of many nodes, and many links to one, are no more work than there are links.
func TestP23_4UsedMany(t *testing.T) {
	const count = 50000
	p := api.Program{Drives: []api.Drive{{From: fromNode("n0")}}}
	for i := range count {
		next := fromNode("n" + strconv.Itoa(i+1))
		p.Nodes = append(p.Nodes, api.Node{Name: "n" + strconv.Itoa(i), Inputs: []api.Link{next, next}})
	}
	if q, e := program.Used(p); e != api.ErrUnknown || len(q.Nodes) != 0 {
		t.Errorf("Used of a chain without an end: %d nodes, %d", len(q.Nodes), e)
	}
	p.Nodes = append(p.Nodes, api.Node{Name: "n" + strconv.Itoa(count)})
	if q, e := program.Used(p); e != api.OK || len(q.Nodes) != count+1 {
		t.Errorf("Used of a chain: %d nodes, %d", len(q.Nodes), e)
	}
}

func TestP23_4Rename(t *testing.T) {
	p := sample()
	q, e := program.Rename(p, "out", "flow")
	want := changed(p, func(p *api.Program) {
		p.Nodes[1].Name, p.Nodes[4].Inputs[0].Node, p.Drives[0].From.Node = "flow", "flow", "flow"
	})
	if e != api.OK || !program.Equal(q, want) || !program.Equal(p, sample()) {
		t.Errorf("Rename: %v, %d", q, e)
	}
	q, e = program.Rename(p, "run", "go")
	want = changed(p, func(p *api.Program) {
		p.Nodes[3].Name, p.Nodes[3].Inputs[1].Node, p.Nodes[5].Inputs[0].Node = "go", "go", "go"
	})
	if e != api.OK || !program.Equal(q, want) {
		t.Errorf("Rename of a node with a link to itself: %v, %d", q, e)
	}
	if q, e = program.Rename(p, "err", "err"); e != api.OK || !program.Equal(q, p) {
		t.Errorf("Rename to the same name: %v, %d", q, e)
	}
	// A point with the name stays, and a node may have the name of a point.
	named := changed(p, func(p *api.Program) {
		p.Nodes[0].Name, p.Nodes[1].Inputs[0].Node, p.Nodes[6].Inputs[0].Node = "temp", "temp", "temp"
	})
	if q, e = program.Rename(p, "err", "temp"); e != api.OK || !program.Equal(q, named) {
		t.Errorf("Rename to the name of a point: %v, %d", q, e)
	}
	if q, e = program.Rename(named, "temp", "err"); e != api.OK || !program.Equal(q, p) {
		t.Errorf("Rename of a node with the name of a point: %v, %d", q, e)
	}
	// All links lead to the first node with a name, and the others keep it.
	odd := api.Program{Nodes: []api.Node{{Name: ""}, {Name: "a", Inputs: []api.Link{{}}}, {Name: "a", Inputs: []api.Link{{Node: "a", Point: "a", Port: 3}}}, {Name: ""}}, Drives: []api.Drive{{Point: "a"}, {From: fromNode("a")}}}
	want = changed(odd, func(p *api.Program) {
		p.Nodes[1].Name, p.Nodes[2].Inputs[0].Node, p.Drives[1].From.Node = "b", "b", "b"
	})
	if q, e = program.Rename(odd, "a", "b"); e != api.OK || !program.Equal(q, want) {
		t.Errorf("Rename of one of two nodes: %v, %d", q, e)
	}
	// No link leads to a node whose name is empty.
	want = changed(odd, func(p *api.Program) { p.Nodes[0].Name = "b" })
	if q, e = program.Rename(odd, "", "b"); e != api.OK || !program.Equal(q, want) {
		t.Errorf("Rename of a node without a name: %v, %d", q, e)
	}
	for i, c := range []struct {
		p          api.Program
		node, name string
		e          api.Errno
	}{
		{p, "none", "x", api.ErrUnknown}, {p, "none", "X", api.ErrUnknown}, {p, "none", "out", api.ErrUnknown}, {p, "", "x", api.ErrUnknown}, {p, "temp", "x", api.ErrUnknown}, {api.Program{}, "", "", api.ErrUnknown},
		{p, "out", "", api.ErrName}, {p, "out", "X", api.ErrName}, {p, "out", "a/b", api.ErrName}, {p, "out", "9a", api.ErrName}, {p, "out", strings.Repeat("a", 25), api.ErrName}, {odd, "a", "", api.ErrName},
		{p, "out", "err", api.ErrDuplicate}, {p, "err", "warm", api.ErrDuplicate}, {odd, "a", "a", api.ErrDuplicate}, {odd, "", "a", api.ErrDuplicate},
	} {
		if q, e := program.Rename(c.p, c.node, c.name); e != c.e || !reflect.DeepEqual(q, api.Program{}) {
			t.Errorf("Rename %d: %v, %d", i, q, e)
		}
	}
}

// renamed is Rename by its definition.
func renamed(p api.Program, node, name string) (api.Program, api.Errno) {
	q, first := changed(p), slices.IndexFunc(p.Nodes, func(n api.Node) bool { return n.Name == node })
	others := 0
	for i, n := range p.Nodes {
		if n.Name == name && i != first {
			others++
		}
		for k, l := range n.Inputs {
			if l.Node == node && l.Node != "" {
				q.Nodes[i].Inputs[k].Node = name
			}
		}
	}
	for i, d := range p.Drives {
		if d.From.Node == node && node != "" {
			q.Drives[i].From.Node = name
		}
	}
	switch {
	case first < 0:
		return api.Program{}, api.ErrUnknown
	case !lexer.Name(name):
		return api.Program{}, api.ErrName
	case others > 0:
		return api.Program{}, api.ErrDuplicate
	}
	q.Nodes[first].Name = name
	return q, api.OK
}

func TestP23_4RenameAnyPrograms(t *testing.T) {
	source := rand.New(rand.NewSource(235))
	found := map[api.Errno]int{}
	for range 20000 {
		p, node, name := oddProgram(source), oddString(source), oddString(source)
		before := changed(p)
		want, wantError := renamed(p, node, name)
		q, e := program.Rename(p, node, name)
		if e != wantError || !program.Equal(q, want) || e != api.OK && !reflect.DeepEqual(q, api.Program{}) {
			t.Fatalf("Rename of %q to %q in %v: %v, %d, not %v, %d", node, name, p, q, e, want, wantError)
		}
		if !reflect.DeepEqual(p, before) {
			t.Fatalf("Rename changed %v", before)
		}
		found[e]++
	}
	for _, e := range []api.Errno{api.OK, api.ErrUnknown, api.ErrName, api.ErrDuplicate} {
		if found[e] < 300 {
			t.Errorf("the result %d came %d times", e, found[e])
		}
	}
}

func TestP23_5Consequences(t *testing.T) {
	source := rand.New(rand.NewSource(236))
	for i := range 5000 {
		p := randomProgram(source)
		if i == 0 {
			p = sample()
		}
		if e := program.Check(points(), p); e != api.OK {
			t.Fatalf("%v is not valid: %d", p, e)
		}
		checkLines(t, p)
		checkUsed(t, p)
		for _, n := range p.Nodes {
			checkRenamed(t, p, n.Name, "fresh")
		}
	}
}

// checkUsed tests the consequences of Used of a valid program.
func checkUsed(t *testing.T, p api.Program) {
	t.Helper()
	q, e := program.Used(p)
	if e != api.OK || program.Check(points(), q) != api.OK || !slices.Equal(q.Drives, p.Drives) || !slices.Equal(program.Drives(q), program.Drives(p)) {
		t.Fatalf("Used of %v: %v, %d", p, q, e)
	}
	if again, e := program.Used(q); e != api.OK || !program.Equal(again, q) {
		t.Fatalf("Used of %v: %v, %d", q, again, e)
	}
}

// checkRenamed tests the consequences of Rename in a valid program.
func checkRenamed(t *testing.T, p api.Program, node, name string) {
	t.Helper()
	q, e := program.Rename(p, node, name)
	if e != api.OK || program.Check(points(), q) != api.OK || program.Equal(p, q) {
		t.Fatalf("Rename of %v: %v, %d", p, q, e)
	}
	if back, e := program.Rename(q, name, node); e != api.OK || !program.Equal(back, p) {
		t.Fatalf("Rename back of %v: %v, %d", q, back, e)
	}
}

// spoil changes everything in a program that its slices hold.
func spoil(p api.Program) {
	for i := range p.Nodes {
		clear(p.Nodes[i].Params)
		clear(p.Nodes[i].Inputs)
	}
	clear(p.Nodes)
	clear(p.Drives)
}

func TestP23Memory(t *testing.T) {
	p := sample()
	for i, f := range []func(){
		func() { q, _ := program.Used(p); spoil(q) }, func() { q, _ := program.Rename(p, "err", "x"); spoil(q) },
		func() { clear(program.Links(p)) }, func() { clear(program.Reads(p)) }, func() { clear(program.Drives(p)) },
		func() { program.Check(points(), p); program.Find(p, "err"); program.Equal(p, p) },
		func() {
			l, _ := program.Line(p)
			q, _ := program.Load(l)
			spoil(q)
			if again, f := program.Load(l); f.Code != api.OK || !program.Equal(again, p) {
				t.Error("Load shares memory with the line")
			}
			clear(l.Tokens)
			clear(l.Kids)
		},
	} {
		if f(); !reflect.DeepEqual(p, sample()) {
			t.Errorf("%d has changed the program to %v", i, p)
			p = sample()
		}
	}
	// Appending to one list of a result changes no other list of it.
	q, _ := program.Rename(p, "err", "x")
	for _, n := range q.Nodes {
		_ = append(n.Inputs, api.Link{Node: "spoiled"})
		_ = append(n.Params, api.Param{Name: "spoiled"})
	}
	if back, _ := program.Rename(q, "x", "err"); !program.Equal(back, p) {
		t.Error("lists of a result share memory")
	}
	l, _ := program.Line(p)
	var spread func(l api.Line)
	spread = func(l api.Line) {
		_ = append(l.Tokens, api.Token{Text: "spoiled"})
		for _, kid := range l.Kids {
			spread(kid)
		}
		_ = append(l.Kids, api.Line{At: 99})
	}
	spread(l)
	if again, f := program.Load(l); f.Code != api.OK || !program.Equal(again, p) {
		t.Error("lists of a line share memory")
	}
}
