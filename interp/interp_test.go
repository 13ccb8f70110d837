package interp_test

import (
	"math"
	"reflect"
	"slices"
	"strconv"
	"testing"

	"plenum/api"
	"plenum/interp"
	"plenum/order"
)

// analog, binary and multi make values.
func analog(n int64) api.Value { return api.Value{Kind: api.Analog, N: n} }
func binary(n int64) api.Value { return api.Value{Kind: api.Binary, N: n} }
func multi(n int64) api.Value  { return api.Value{Kind: api.Multi, N: n} }

// fromNode, fromPoint and fromConst make links, and delayed makes one delayed.
func fromNode(name string) api.Link  { return api.Link{Node: name} }
func fromPoint(name string) api.Link { return api.Link{Point: name} }
func fromConst(v api.Value) api.Link { return api.Link{Const: v} }
func delayed(l api.Link, v api.Value) api.Link {
	l.Delayed, l.Initial = true, v
	return l
}

// node makes a node without params.
func node(name, block string, inputs ...api.Link) api.Node {
	return api.Node{Name: name, Block: block, Inputs: inputs}
}

// with returns a node with params, which are names and values.
func with(n api.Node, params ...any) api.Node {
	for i := 0; i < len(params); i += 2 {
		n.Params = append(n.Params, api.Param{Name: params[i].(string), Value: int64(params[i+1].(int))})
	}
	return n
}

// drives makes drives of the points y0, y1 and so on.
func drives(links ...api.Link) []api.Drive {
	var list []api.Drive
	for i, l := range links {
		list = append(list, api.Drive{Point: "y" + strconv.Itoa(i), Level: 10, From: l})
	}
	return list
}

// call is what the functions of the package are called with.
type call struct {
	p      api.Program
	list   []int
	m      interp.Memory
	inputs []api.Setting
	dt     int
}

// sample is a call without an error.
func sample() call {
	return call{
		p: api.Program{
			Name: "p", Period: 1,
			Nodes: []api.Node{
				with(node("late", "ondelay", fromNode("hot")), "time", 5),
				node("hot", "above", fromPoint("room"), fromConst(analog(22000))),
				node("sum", "add", fromPoint("room"), delayed(fromNode("sum"), analog(5000))),
				node("run", "or", fromNode("late"), delayed(fromNode("run"), binary(0)), fromPoint("button")),
				with(node("stages", "stage", fromNode("sum")), "stages", 3, "up", 60000),
				with(node("valve", "pid", fromConst(analog(23000)), fromPoint("room"), fromNode("run")), "ti", 60),
			},
			Drives: drives(fromNode("sum"), delayed(fromNode("late"), binary(1)), fromPoint("spare"), fromNode("stages"), fromNode("valve")),
		},
		list:   []int{2, 1, 0, 4, 3, 5},
		m:      interp.Memory{States: [][]int64{{0}, {}, nil, {}, {0, 0}, {0, 0, 0}}, Links: []api.Value{analog(5000), binary(0), binary(1)}},
		inputs: []api.Setting{{Point: "spare"}, {Point: "button", Value: binary(0)}, {Point: "room", Value: analog(21000)}, {Point: "other", Value: multi(77)}},
		dt:     1,
	}
}

// copied returns a call in new memory.
func copied(c call) call {
	d := c
	d.p.Nodes, d.p.Drives = slices.Clone(c.p.Nodes), slices.Clone(c.p.Drives)
	for i, n := range c.p.Nodes {
		d.p.Nodes[i].Params, d.p.Nodes[i].Inputs = slices.Clone(n.Params), slices.Clone(n.Inputs)
	}
	d.list, d.m.Links, d.inputs = slices.Clone(c.list), slices.Clone(c.m.Links), slices.Clone(c.inputs)
	d.m.States = slices.Clone(c.m.States)
	for i, state := range c.m.States {
		d.m.States[i] = slices.Clone(state)
	}
	return d
}

// changed returns a call with changes.
func changed(c call, changes ...func(c *call)) call {
	c = copied(c)
	for _, change := range changes {
		change(&c)
	}
	return c
}

// isEmpty reports whether a memory and a result are zero values.
func isEmpty(m interp.Memory, r interp.Result) bool {
	return len(m.States)+len(m.Links)+len(r.Wires)+len(r.Drives) == 0
}

// functions are the functions with errors, in the order of the table. They return the error, and whether there are results that should not be there.
func functions() map[string]func(c call) (api.Errno, bool) {
	return map[string]func(c call) (api.Errno, bool){
		"Start": func(c call) (api.Errno, bool) {
			m, e := interp.Start(c.p)
			return e, e != api.OK && !isEmpty(m, interp.Result{})
		},
		"Scan": func(c call) (api.Errno, bool) {
			m, r, e := interp.Scan(c.p, c.m, c.inputs, c.dt)
			return e, e != api.OK && !isEmpty(m, r)
		},
		"ScanIn": func(c call) (api.Errno, bool) {
			m, r, e := interp.ScanIn(c.p, c.list, c.m, c.inputs, c.dt)
			return e, e != api.OK && !isEmpty(m, r)
		},
		"Run": func(c call) (api.Errno, bool) {
			l, e := interp.Run(c.p, [][]api.Setting{c.inputs, c.inputs}, c.dt)
			return e, e != api.OK && len(l) > 0
		},
	}
}

// wrong is a change of the sample, and the functions that have an error then: all of them, those that scan, or some.
type wrong struct {
	e      api.Errno
	names  []string
	change func(c *call)
}

// all, scans, single and inOrder are the functions of the rows of the table.
var (
	all     = []string{"Start", "Scan", "ScanIn", "Run"}
	scans   = []string{"Scan", "ScanIn", "Run"}
	single  = []string{"Scan", "ScanIn"}
	inOrder = []string{"ScanIn"}
)

// programErrors are the changes of the program with errors of all functions, in the order in which they are found.
func programErrors() [][]wrong {
	bad := func(e api.Errno, change func(p *api.Program)) wrong {
		return wrong{e, all, func(c *call) { change(&c.p) }}
	}
	input := func(l api.Link) wrong {
		return bad(api.ErrInvalid, func(p *api.Program) { p.Nodes[3].Inputs[2] = l })
	}
	from := func(l api.Link) wrong {
		return bad(api.ErrInvalid, func(p *api.Program) { p.Drives[4].From = l })
	}
	params := func(e api.Errno, params ...any) wrong {
		return bad(e, func(p *api.Program) { p.Nodes[0] = with(node("late", "ondelay", fromNode("hot")), params...) })
	}
	return [][]wrong{
		{bad(api.ErrTooMany, func(p *api.Program) { p.Nodes = append(p.Nodes, make([]api.Node, api.MaxNodes)...) })},
		{bad(api.ErrDuplicate, func(p *api.Program) { p.Nodes[5].Name = "late" })},
		{
			bad(api.ErrUnknown, func(p *api.Program) { p.Nodes[4].Inputs[0].Node = "none" }),
			bad(api.ErrUnknown, func(p *api.Program) { p.Drives[4].From.Node = "none" }),
			bad(api.ErrUnknown, func(p *api.Program) { p.Nodes[2].Inputs[1].Node = "room" }),
		},
		{
			bad(api.ErrCycle, func(p *api.Program) { p.Nodes[2].Inputs[1] = fromNode("sum") }),
			bad(api.ErrCycle, func(p *api.Program) { p.Nodes[2].Inputs[0] = fromNode("stages") }),
		},
		{
			input(fromConst(api.Value{})), input(fromConst(multi(17))), input(fromPoint("Room")), input(fromPoint("a/b")), input(api.Link{Node: "late", Point: "button"}), input(api.Link{Node: "late", Port: 1}), input(api.Link{Node: "late", Const: binary(0)}), input(api.Link{Node: "late", Delayed: true}), input(api.Link{Node: "late", Initial: binary(0)}),
			from(fromConst(api.Value{})), from(api.Link{Point: "spare", Port: -1}), from(api.Link{Point: "spare", Delayed: true}), from(delayed(fromConst(binary(2)), binary(1))),
		},
		{
			params(api.ErrUnknown, "times", 5), params(api.ErrUnknown, "time", -1, "", 0), params(api.ErrDuplicate, "time", 5, "time", 5), params(api.ErrDuplicate, "time", -5, "time", 5), params(api.ErrRange, "time", -1), params(api.ErrRange, "time", api.DaySeconds+1),
			bad(api.ErrUnknown, func(p *api.Program) { p.Nodes[0].Block = "late" }), bad(api.ErrUnknown, func(p *api.Program) { p.Nodes[0].Block = "" }),
			bad(api.ErrUnknown, func(p *api.Program) {
				p.Nodes[0] = with(node("late", "none", fromNode("hot"), fromNode("hot")), "x", 1)
			}),
			bad(api.ErrConflict, func(p *api.Program) { p.Nodes[0] = with(node("late", "hyst", fromNode("hot")), "on", 5, "off", 5) }),
			// Of a node with both errors that of the params comes first.
			bad(api.ErrRange, func(p *api.Program) {
				p.Nodes[0].Params[0].Value, p.Nodes[0].Inputs = -1, nil
			}),
			bad(api.ErrInvalid, func(p *api.Program) { p.Nodes[0].Inputs = nil }), bad(api.ErrInvalid, func(p *api.Program) { p.Nodes[0].Inputs = append(p.Nodes[0].Inputs, fromNode("hot")) }),
		},
		{
			// Later nodes matter only if those before them have no such error.
			bad(api.ErrInvalid, func(p *api.Program) { p.Nodes[3].Inputs = p.Nodes[3].Inputs[:1] }),
			bad(api.ErrInvalid, func(p *api.Program) {
				for range 6 {
					p.Nodes[3].Inputs = append(p.Nodes[3].Inputs, fromNode("late"))
				}
			}),
			bad(api.ErrUnknown, func(p *api.Program) { p.Nodes[3].Block = "Or" }),
			bad(api.ErrUnknown, func(p *api.Program) { p.Nodes[3] = with(p.Nodes[3], "time", 1) }),
		},
		{bad(api.ErrRange, func(p *api.Program) { p.Nodes[4].Params[0].Value = 16 }), bad(api.ErrConflict, func(p *api.Program) { p.Nodes[5] = with(p.Nodes[5], "low", 5, "high", 4) })},
	}
}

// scanErrors are the changes behind those of the program, in the order in which they are found.
func scanErrors() [][]wrong {
	time := func(dt int) wrong { return wrong{api.ErrInvalid, scans, func(c *call) { c.dt = dt }} }
	memory := func(change func(m *interp.Memory)) wrong {
		return wrong{api.ErrInvalid, single, func(c *call) { change(&c.m) }}
	}
	list := func(list ...int) wrong { return wrong{api.ErrInvalid, inOrder, func(c *call) { c.list = list }} }
	inputs := func(e api.Errno, list ...api.Setting) wrong {
		return wrong{e, scans, func(c *call) { c.inputs = append(c.inputs, list...) }}
	}
	without := func(i int) wrong {
		return wrong{api.ErrUnknown, scans, func(c *call) { c.inputs[i].Point = "none" }}
	}
	value := func(v api.Value) wrong {
		return wrong{api.ErrType, scans, func(c *call) { c.inputs[2].Value = v }}
	}
	return [][]wrong{
		{time(0), time(-1), time(api.DaySeconds + 1), time(math.MinInt), time(math.MaxInt)},
		{
			memory(func(m *interp.Memory) { *m = interp.Memory{} }), memory(func(m *interp.Memory) { m.States = m.States[:5] }), memory(func(m *interp.Memory) { m.States = m.States[1:] }), memory(func(m *interp.Memory) { m.States = append(m.States, nil) }),
			memory(func(m *interp.Memory) { m.States[0] = nil }), memory(func(m *interp.Memory) { m.States[0] = []int64{0, 0} }), memory(func(m *interp.Memory) { m.States[2] = []int64{0} }), memory(func(m *interp.Memory) { m.States[5] = []int64{0, 0} }), memory(func(m *interp.Memory) { m.States[4], m.States[5] = m.States[5], m.States[4] }),
			memory(func(m *interp.Memory) { m.Links = nil }), memory(func(m *interp.Memory) { m.Links = m.Links[:2] }), memory(func(m *interp.Memory) { m.Links = append(m.Links, binary(0)) }),
			list(), list(0, 1, 2, 3, 4, 5), list(1, 0, 2, 3, 4), list(2, 1, 0, 4, 3, 5, 5), list(2, 1, 0, 4, 3, 3), list(2, 1, 0, 4, 3, 6), list(-1, 1, 0, 4, 3, 5), list(2, 1, 0, 4, 5, 3), list(math.MaxInt),
		},
		{inputs(api.ErrDuplicate, api.Setting{Point: "room", Value: analog(21000)}, api.Setting{Point: "room", Value: analog(21000)}), inputs(api.ErrDuplicate, api.Setting{Point: "other"}), inputs(api.ErrDuplicate, api.Setting{}, api.Setting{})},
		{without(0), without(1), without(2), {api.ErrUnknown, scans, func(c *call) { c.inputs = c.inputs[3:] }}, {api.ErrUnknown, scans, func(c *call) {
			c.p.Nodes[2].Inputs[1] = delayed(fromPoint("new"), analog(0))
		}}, {api.ErrUnknown, scans, func(c *call) { c.p.Drives[1].From = delayed(fromPoint("late"), analog(0)) }}},
		{value(binary(0)), value(multi(1)), value(api.Value{}), value(api.Value{Kind: 9}), value(api.Value{Kind: -1}), {api.ErrType, scans, func(c *call) { c.inputs[1].Value = analog(0) }}, {api.ErrType, scans, func(c *call) { c.inputs[1].Value = binary(2) }}, {api.ErrType, scans, func(c *call) { c.p.Nodes[1].Inputs[1] = fromConst(binary(1)) }},
			{api.ErrType, single, func(c *call) { c.m.Links[0] = binary(0) }}, {api.ErrType, single, func(c *call) { c.m.Links[1] = api.Value{} }}, {api.ErrInvalid, single, func(c *call) { c.m.States[0][0] = -1 }}, {api.ErrState, single, func(c *call) { c.m.States[4][0] = 4 }}, {api.ErrInvalid, single, func(c *call) { c.m.States[5][0] = 2 }}},
	}
}

// check calls all functions and compares their errors with that of a change.
func check(t *testing.T, c call, w wrong, place string) {
	before := copied(c)
	for name, f := range functions() {
		want := api.OK
		if slices.Contains(w.names, name) {
			want = w.e
		}
		if e, hasResults := f(c); e != want || hasResults {
			t.Errorf("%s, %s: %d, not %d, with results: %v", place, name, e, want, hasResults)
		}
	}
	if !reflect.DeepEqual(c, before) {
		t.Errorf("%s: the arguments were changed", place)
	}
}

func TestP26Errors(t *testing.T) {
	check(t, sample(), wrong{}, "the sample")
	steps := append(programErrors(), scanErrors()...)
	for i, list := range steps {
		for k, w := range list {
			check(t, changed(sample(), w.change), w, strconv.Itoa(i)+"/"+strconv.Itoa(k))
		}
	}
}

// An error that is found earlier comes first.
func TestP26FirstErrors(t *testing.T) {
	steps := append(programErrors(), scanErrors()...)
	for i, list := range steps {
		for k, w := range list {
			for m, later := range steps[i+1:] {
				for n, x := range later {
					c := sample()
					// A change may presuppose what another one has removed; then both cannot be made.
					if !canBeMade(func() { c = changed(c, x.change, w.change) }) {
						continue
					}
					for name, f := range functions() {
						e, hasResults := f(c)
						if slices.Contains(w.names, name) && (e != w.e || hasResults) {
							t.Fatalf("%s, change %d/%d and %d/%d: %d, not %d", name, i, k, i+1+m, n, e, w.e)
						}
					}
				}
			}
		}
	}
}

// canBeMade makes a change and reports whether it could.
func canBeMade(change func()) (made bool) {
	defer func() { made = recover() == nil }()
	change()
	return
}

func TestP26Times(t *testing.T) {
	for _, dt := range []int{1, 2, api.DaySeconds} {
		check(t, changed(sample(), func(c *call) { c.dt = dt }), wrong{}, "dt "+strconv.Itoa(dt))
	}
}

// The error of an evaluation is that of the first node in the order of evaluation.
func TestP26_2FirstNode(t *testing.T) {
	c := sample()
	c.m.States[4] = []int64{-1, 0}
	c.inputs[1].Value = analog(1)
	for want, list := range map[api.Errno][]int{api.ErrState: {2, 4, 1, 0, 3, 5}, api.ErrType: {1, 0, 3, 2, 4, 5}} {
		if _, _, e := interp.ScanIn(c.p, list, c.m, c.inputs, 1); e != want {
			t.Errorf("in the order %v: %d", list, e)
		}
	}
	// In the least order run is evaluated before stages.
	if _, _, e := interp.Scan(c.p, c.m, c.inputs, 1); e != api.ErrType {
		t.Errorf("Scan: %d", e)
	}
	c.m.States[0] = []int64{7}
	if _, _, e := interp.Scan(c.p, c.m, c.inputs, 1); e != api.ErrInvalid {
		t.Errorf("Scan with a state of the first node: %d", e)
	}
}

func TestP26_1Start(t *testing.T) {
	for i, x := range []struct {
		nodes []api.Node
		from  []api.Link
		want  interp.Memory
	}{
		{nil, nil, interp.Memory{}},
		{[]api.Node{node("a", "count", fromPoint("x"), fromPoint("x")), node("b", "not", fromNode("a")), node("c", "pid", fromPoint("x"), fromPoint("x"), fromPoint("x")), node("d", "edge", fromPoint("x"))}, nil, interp.Memory{States: [][]int64{{0, 0}, {}, {0, 0, 0}, {0}}}},
		{nil, []api.Link{delayed(fromPoint("x"), multi(4)), fromPoint("x"), delayed(fromConst(binary(0)), binary(1))}, interp.Memory{Links: []api.Value{multi(4), binary(1)}}},
		{
			[]api.Node{node("b", "or", delayed(fromNode("a"), binary(1)), fromNode("a"), delayed(fromPoint("a"), binary(0))), node("a", "add", delayed(fromConst(analog(7)), analog(8)), delayed(fromNode("b"), analog(-9)))},
			[]api.Link{fromNode("a"), delayed(fromNode("a"), analog(api.MaxAnalog)), delayed(fromNode("a"), multi(16))},
			interp.Memory{States: [][]int64{nil, nil}, Links: []api.Value{binary(1), binary(0), analog(8), analog(-9), analog(api.MaxAnalog), multi(16)}},
		},
	} {
		m, e := interp.Start(api.Program{Nodes: x.nodes, Drives: drives(x.from...)})
		if e != api.OK || !interp.Same(m, x.want) {
			t.Errorf("%d: %v, %d, not %v", i, m, e, x.want)
		}
	}
	// What the program and its drives are called, and how often it is evaluated, does not matter.
	p := sample().p
	p.Name, p.Period, p.Drives[0].Point, p.Drives[1].Point, p.Drives[2].Level = "", -7, "", "", 99
	if m, e := interp.Start(p); e != api.OK || !interp.Same(m, sample().m) {
		t.Errorf("%v, %d", m, e)
	}
}

func TestP26_2Scan(t *testing.T) {
	c := sample()
	m, r, e := interp.Scan(c.p, c.m, c.inputs, 30)
	if e != api.OK || !interp.Same(m, interp.Memory{States: [][]int64{{0}, {}, {}, {}, {0, 0}, {0, 0, 0}}, Links: []api.Value{analog(26000), binary(0), binary(0)}}) {
		t.Errorf("the first scan: %v, %d", m, e)
	}
	if !reflect.DeepEqual(r.Wires, [][]api.Value{{binary(0)}, {binary(0)}, {analog(26000)}, {binary(0)}, {multi(1)}, {analog(0)}}) || !slices.Equal(r.Drives, []api.Value{analog(26000), binary(1), {}, multi(1), analog(0)}) {
		t.Errorf("the first result: %v", r)
	}
	c.inputs[0].Value, c.inputs[1].Value, c.inputs[2].Value = multi(3), binary(1), analog(22500)
	m, r, e = interp.Scan(c.p, m, c.inputs, 30)
	if e != api.OK || !interp.Same(m, interp.Memory{States: [][]int64{{1}, {}, {}, {}, {0, 0}, {1, -250, 0}}, Links: []api.Value{analog(48500), binary(1), binary(0)}}) {
		t.Errorf("the second scan: %v, %d", m, e)
	}
	if !reflect.DeepEqual(r.Wires, [][]api.Value{{binary(0)}, {binary(1)}, {analog(48500)}, {binary(1)}, {multi(1)}, {analog(250)}}) || !slices.Equal(r.Drives, []api.Value{analog(48500), binary(0), multi(3), multi(1), analog(250)}) {
		t.Errorf("the second result: %v", r)
	}
	c.inputs[1].Value = binary(0)
	m, r, e = interp.Scan(c.p, m, c.inputs, 30)
	if e != api.OK || !interp.Same(m, interp.Memory{States: [][]int64{{6}, {}, {}, {}, {1, 0}, {1, 0, 0}}, Links: []api.Value{analog(71000), binary(1), binary(1)}}) {
		t.Errorf("the third scan: %v, %d", m, e)
	}
	if !slices.Equal(r.Drives, []api.Value{analog(71000), binary(0), multi(3), multi(2), analog(500)}) {
		t.Errorf("the third result: %v", r)
	}
}

// Nodes and points have names of their own, and values pass as they are where nothing is computed.
func TestP26_2Links(t *testing.T) {
	far := analog(3 * api.MaxAnalog)
	p := api.Program{
		Nodes:  []api.Node{node("x", "not", fromPoint("x")), node("far", "pick", fromPoint("x"), fromPoint("a"), fromPoint("b")), node("near", "neg", fromNode("far")), node("", "abs", fromPoint("a")), node("No", "abs", fromPoint("a"))},
		Drives: drives(fromNode("x"), fromPoint("x"), fromNode("far"), fromNode("near"), delayed(fromPoint("b"), multi(2)), delayed(fromConst(analog(1)), analog(2)), fromPoint("odd"), fromConst(multi(3)), delayed(fromNode("near"), binary(0))),
	}
	inputs := []api.Setting{{Point: "a", Value: far}, {Point: "b", Value: analog(5)}, {Point: "x", Value: binary(1)}, {Point: "odd", Value: api.Value{Kind: -3, N: 9}}}
	second := slices.Clone(inputs)
	second[1].Value, second[2].Value = analog(6), binary(0)
	got, e := interp.Run(p, [][]api.Setting{inputs, second, inputs}, 1)
	want := [][]api.Value{
		{binary(0), binary(1), far, analog(-api.MaxAnalog), multi(2), analog(2), {Kind: -3, N: 9}, multi(3), binary(0)},
		{binary(1), binary(0), analog(6), analog(-6), analog(5), analog(1), {Kind: -3, N: 9}, multi(3), analog(-api.MaxAnalog)},
		{binary(0), binary(1), far, analog(-api.MaxAnalog), analog(6), analog(1), {Kind: -3, N: 9}, multi(3), analog(-6)},
	}
	if e != api.OK || !reflect.DeepEqual(got, want) {
		t.Errorf("%v, %d", got, e)
	}
}

// The program of the chapter's examples.
func TestP26_2Run(t *testing.T) {
	p := api.Program{Name: "p", Period: 1, Nodes: []api.Node{node("n", "add", fromPoint("x"), delayed(fromNode("n"), analog(5)))}, Drives: drives(fromNode("n"))}
	setting := func(v api.Value) []api.Setting { return []api.Setting{{Point: "x", Value: v}} }
	ten, on := setting(analog(10)), setting(binary(1))
	for i, x := range []struct {
		inputs [][]api.Setting
		dt     int
		want   [][]api.Value
		e      api.Errno
	}{
		{[][]api.Setting{ten, ten, ten}, 1, [][]api.Value{{analog(15)}, {analog(25)}, {analog(35)}}, api.OK},
		{[][]api.Setting{ten}, api.DaySeconds, [][]api.Value{{analog(15)}}, api.OK},
		{nil, 1, nil, api.OK}, {nil, 0, nil, api.ErrInvalid}, {nil, api.DaySeconds + 1, nil, api.ErrInvalid}, {[][]api.Setting{ten, on}, 0, nil, api.ErrInvalid},
		{[][]api.Setting{on}, 1, nil, api.ErrType}, {[][]api.Setting{nil}, 1, nil, api.ErrUnknown}, {[][]api.Setting{ten, ten, on}, 1, nil, api.ErrType},
		// The errors of a scan come before those of later ones.
		{[][]api.Setting{on, nil}, 1, nil, api.ErrType}, {[][]api.Setting{nil, on}, 1, nil, api.ErrUnknown}, {[][]api.Setting{ten, on, append(ten, ten...)}, 1, nil, api.ErrType}, {[][]api.Setting{nil, append(ten, ten...)}, 1, nil, api.ErrUnknown}, {[][]api.Setting{append(ten, ten...), nil}, 1, nil, api.ErrDuplicate}, {[][]api.Setting{ten, append(on, on...)}, 1, nil, api.ErrDuplicate},
	} {
		got, e := interp.Run(p, x.inputs, x.dt)
		if e != x.e || !slices.EqualFunc(got, x.want, slices.Equal) {
			t.Errorf("%d: %v, %d, not %v, %d", i, got, e, x.want, x.e)
		}
	}
	p.Drives = nil
	if got, e := interp.Run(p, [][]api.Setting{ten, ten}, 1); e != api.OK || len(got) != 2 || len(got[0])+len(got[1]) != 0 {
		t.Errorf("without drives: %v, %d", got, e)
	}
	if got, e := interp.Run(api.Program{}, [][]api.Setting{nil, ten}, 1); e != api.OK || len(got) != 2 {
		t.Errorf("the empty program: %v, %d", got, e)
	}
}

func TestP26_2Same(t *testing.T) {
	m := interp.Memory{States: [][]int64{{1, 2}, {}, {3}}, Links: []api.Value{analog(1), binary(1)}}
	same := []interp.Memory{m, {States: [][]int64{{1, 2}, nil, {3}}, Links: []api.Value{analog(1), binary(1)}}}
	for i, x := range same {
		if !interp.Same(m, x) || !interp.Same(x, m) {
			t.Errorf("%d: %v is another memory", i, x)
		}
	}
	if !interp.Same(interp.Memory{}, interp.Memory{States: [][]int64{}, Links: []api.Value{}}) {
		t.Error("empty memories differ")
	}
	for i, x := range []interp.Memory{
		{}, {States: m.States}, {Links: m.Links}, {States: m.States[:2], Links: m.Links}, {States: m.States, Links: m.Links[:1]}, {States: [][]int64{{1}, {}, {3}}, Links: m.Links}, {States: [][]int64{{1, 2}, {3}, {}}, Links: m.Links}, {States: [][]int64{{1, 2}, {3}}, Links: m.Links}, {States: [][]int64{{1, 2}, {}, {4}}, Links: m.Links}, {States: [][]int64{{1, 3}, {}, {3}}, Links: m.Links},
		{States: m.States, Links: []api.Value{analog(1), analog(1)}}, {States: m.States, Links: []api.Value{analog(2), binary(1)}}, {States: m.States, Links: []api.Value{binary(1), analog(1)}}, {States: m.States, Links: append(m.Links, api.Value{})}, {States: append(m.States, nil), Links: m.Links},
	} {
		if interp.Same(m, x) || interp.Same(x, m) {
			t.Errorf("%d: %v is the same memory", i, x)
		}
	}
}

// Results share no memory with arguments or with each other.
func TestP26Memory(t *testing.T) {
	c := sample()
	start, _ := interp.Start(c.p)
	again, _ := interp.Start(c.p)
	start.States[0][0], start.Links[0] = 9, analog(9)
	for _, state := range start.States {
		_ = append(state, 9)
	}
	if !interp.Same(again, c.m) {
		t.Errorf("a changed memory changes another one: %v", again)
	}
	before := copied(c)
	m, r, _ := interp.ScanIn(c.p, c.list, c.m, c.inputs, 1)
	other, s, _ := interp.ScanIn(c.p, c.list, c.m, c.inputs, 1)
	for i := range m.States {
		for k := range m.States[i] {
			m.States[i][k] = 77
		}
		m.States[i] = append(m.States[i], 78)
		r.Wires[i][0] = multi(9)
		r.Wires[i] = append(r.Wires[i], multi(10))
	}
	for i := range m.Links {
		m.Links[i] = multi(11)
	}
	m.Links = append(m.Links, multi(12))
	for i := range r.Drives {
		r.Drives[i] = multi(13)
	}
	third, u, _ := interp.ScanIn(c.p, c.list, c.m, c.inputs, 1)
	if !reflect.DeepEqual(c, before) || !interp.Same(third, other) || !reflect.DeepEqual(u, s) {
		t.Error("a changed result changes something else")
	}
	lists, _ := interp.Run(c.p, [][]api.Setting{c.inputs, c.inputs}, 1)
	_ = append(lists[0], multi(14))
	lists[0][3] = multi(15)
	if lists[1][3] != multi(1) || lists[1][0] != analog(47000) {
		t.Errorf("lists of Run share memory: %v", lists)
	}
}

// Every order of the nodes gives the same as the least one.
func TestP26_3EveryOrder(t *testing.T) {
	c := sample()
	c.inputs[1].Value = binary(1)
	m, r, e := interp.Scan(c.p, c.m, c.inputs, 40)
	if e != api.OK {
		t.Fatal(e)
	}
	orders := 0
	var try func(list []int)
	try = func(list []int) {
		for i := range c.p.Nodes {
			if !slices.Contains(list, i) {
				try(append(slices.Clone(list), i))
			}
		}
		if !order.Valid(c.p, list) {
			return
		}
		orders++
		other, s, e := interp.ScanIn(c.p, list, c.m, c.inputs, 40)
		if e != api.OK || !interp.Same(other, m) || !reflect.DeepEqual(s, r) {
			t.Errorf("in the order %v: %v, %v, %d", list, other, s, e)
		}
	}
	try(nil)
	if orders != 15 {
		t.Errorf("%d orders", orders)
	}
}
