package compile_test

import (
	"reflect"
	"slices"
	"strconv"
	"strings"
	"testing"

	"plenum/api"
	"plenum/compile"
	"plenum/interp"
	"plenum/machine"
	"plenum/parser"
	"plenum/program"
)

// analog, binary and multi make values.
func analog(n int64) api.Value { return api.Value{Kind: api.Analog, N: n} }
func binary(n int64) api.Value { return api.Value{Kind: api.Binary, N: n} }
func multi(n int64) api.Value  { return api.Value{Kind: api.Multi, N: n} }

// points are points of all kinds and roles, not sorted.
func points() []api.Point {
	number := func(name, unit string, role int) api.Point {
		p := api.Point{Name: name, Kind: api.Analog, Role: role, Unit: unit, Low: -100000, High: 100000}
		if role != api.Input {
			p.Default = analog(0)
		}
		return p
	}
	bit := func(name string, role int) api.Point {
		p := api.Point{Name: name, Kind: api.Binary, Role: role}
		if role != api.Input {
			p.Default = binary(0)
		}
		return p
	}
	states := func(name string, role int, list ...string) api.Point {
		p := api.Point{Name: name, Kind: api.Multi, Role: role, States: list}
		if role != api.Input {
			p.Default = multi(1)
		}
		return p
	}
	return []api.Point{
		number("room", "degC", api.Input), number("supply", "degC", api.Input), number("humid", "pct", api.Input), number("ratio", "", api.Input), bit("button", api.Input), bit("door", api.Input), states("season", api.Input, "winter", "summer"),
		bit("fan", api.Output), bit("pump", api.Output), bit("alarm", api.Held), number("valve", "pct", api.Output), number("target", "degC", api.Held), number("plain", "", api.Held), number("heat", "1000*m2/s2", api.Held), states("mode", api.Held, "off", "on"), states("stages", api.Output, "none", "one", "two", "three"),
	}
}

// loaded reads the lines of a program.
func loaded(t *testing.T, source string) api.Program {
	t.Helper()
	lines, fault := parser.Parse(source)
	if fault.Code != api.OK || len(lines) != 1 {
		t.Fatalf("%v in %q", fault, source)
	}
	p, fault := program.Load(lines[0])
	if fault.Code != api.OK {
		t.Fatalf("%v in %q", fault, source)
	}
	return p
}

// compiled returns the valid unit of a program that can be compiled.
func compiled(t *testing.T, p api.Program) compile.Unit {
	t.Helper()
	u, e := compile.Compile(p, points())
	if e != api.OK || compile.Check(u) != api.OK || machine.Verify(u.Code) != api.OK {
		t.Fatalf("Compile of %v: %d, Check: %d", p, e, compile.Check(u))
	}
	return u
}

// checkRun compares the values of the only output of a program in scans with some values of its only input.
func checkRun(t *testing.T, source string, dt int, inputs []int64, want ...api.Value) {
	t.Helper()
	p := loaded(t, source)
	u := compiled(t, p)
	var lists [][]api.Value
	for _, n := range inputs {
		lists = append(lists, []api.Value{{Kind: u.Inputs[0].Kind, N: n}})
	}
	got, e := compile.Run(u, lists, dt)
	if e != api.OK || !slices.EqualFunc(got, want, func(list []api.Value, v api.Value) bool { return slices.Equal(list, []api.Value{v}) }) {
		t.Errorf("Run of %q: %v, %d, not %v", source, got, e, want)
	}
}

func TestP28_1Examples(t *testing.T) {
	const hot = "program p period 5:\n  node hot above:\n    in point room\n    in analog 22\n"
	on, off := binary(1), binary(0)
	checkRun(t, hot+"  drive fan level 10 from node hot\n", 1, []int64{21500, 22500, 22000}, off, on, off)
	u := compiled(t, loaded(t, hot+"  drive fan level 10 from node hot\n"))
	if !slices.Equal(u.Inputs, []compile.Port{{"room", api.Analog, 0}}) || !slices.Equal(u.Outputs, []compile.Port{{"fan", api.Binary, 10}}) || u.Name != "p" || u.Period != 5 {
		t.Errorf("the unit is %v", u)
	}
	checkRun(t, hot+"  node late ondelay:\n    param time 5\n    in node hot\n  drive fan level 10 from node late\n", 5, []int64{22500, 22500, 22500}, off, on, on)
	checkRun(t, hot+"  node cool not:\n    in node hot delayed binary off\n  drive fan level 10 from node cool\n", 1, []int64{22500, 22500}, on, off)
}

// What each block gives, those for which the machine has operations in particular.
func TestP28_1Blocks(t *testing.T) {
	run := func(node, drive string, inputs []int64, want ...int64) {
		t.Helper()
		kind := map[string]int{"fan": api.Binary, "plain": api.Analog, "stages": api.Multi, "mode": api.Multi}[drive]
		var values []api.Value
		for _, n := range want {
			values = append(values, api.Value{Kind: kind, N: n})
		}
		source := "program p period 1:\n  node n " + strings.ReplaceAll(node, "; ", "\n    ") + "\n  drive " + drive + " level 10 from node n\n"
		checkRun(t, source, 1, inputs, values...)
	}
	numbers := []int64{-3000, 5000, 5001, api.MaxAnalog, -api.MaxAnalog}
	run("add:; in point ratio; in analog 5", "plain", numbers, 2000, 10000, 10001, api.MaxAnalog, -api.MaxAnalog+5000)
	run("sub:; in analog 5; in point ratio", "plain", numbers, 8000, 0, -1, -api.MaxAnalog+5000, api.MaxAnalog)
	run("mul:; in point ratio; in analog 0.5", "plain", numbers, -1500, 2500, 2501, api.MaxAnalog/2, -api.MaxAnalog/2)
	run("div:; in analog 5; in point ratio", "plain", append(numbers, 0), -1667, 1000, 1000, 0, 0, api.MaxAnalog)
	run("min:; in point ratio; in analog 5", "plain", numbers, -3000, 5000, 5000, 5000, -api.MaxAnalog)
	run("max:; in analog 5; in point ratio", "plain", numbers, 5000, 5000, 5001, api.MaxAnalog, 5000)
	run("above:; in point ratio; in analog 5", "fan", numbers, 0, 0, 1, 1, 0)
	run("above:; in analog 5; in point ratio", "fan", numbers, 1, 0, 0, 0, 1)
	run("below:; in point ratio; in analog 5", "fan", numbers, 1, 0, 0, 0, 1)
	run("below:; in analog 5; in point ratio", "fan", numbers, 0, 0, 1, 1, 0)
	run("mean:; in point ratio; in analog 5; in analog 5; in analog 5; in analog 5; in analog 5; in analog 5; in analog 6", "plain", numbers[:3], 4125, 5125, 5125)
	run("neg:; in point ratio", "plain", numbers, 3000, -5000, -5001, -api.MaxAnalog, api.MaxAnalog)
	run("limit:; in point ratio; param low -1; param high 5", "plain", numbers, -1000, 5000, 5000, 5000, -1000)
	bits := []int64{0, 1}
	run("not:; in point button", "fan", bits, 1, 0)
	run("and:; in point button; in binary on; in binary on", "fan", bits, 0, 1)
	run("and:; in point button; in binary on; in binary on; in binary on; in binary on; in binary on; in binary on; in binary off", "fan", bits, 0, 0)
	run("and:; in binary off; in point button; in binary on", "fan", bits, 0, 0)
	run("or:; in point button; in binary off; in binary off", "fan", bits, 0, 1)
	run("or:; in point button; in binary off; in binary off; in binary off; in binary off; in binary off; in binary off; in binary on", "fan", bits, 1, 1)
	run("xor:; in point button; in binary on", "fan", bits, 1, 0)
	run("pick:; in point button; in analog 7; in analog -7", "plain", bits, -7000, 7000)
	run("pick:; in binary off; in binary on; in point button", "fan", bits, 0, 1)
	run("pick:; in binary on; in point button; in binary on", "fan", bits, 0, 1)
	run("pick:; in point button; in point mode; in point mode delayed multi 2", "mode", nil)
	states := []int64{1, 2, 3, 16}
	run("choose:; in point season; in analog 7; in analog 8; in analog 9", "plain", states, 7000, 8000, 9000, 9000)
	run("choose:; in multi 2; in point mode; in point mode delayed multi 1", "mode", states, 1, 1, 2, 3)
	run("stage:; param stages 3; param up 5; param down 5; in point ratio", "stages", []int64{9000, 9000, 9000, 9000, 5000, 0}, 2, 3, 4, 4, 4, 3)
	run("edge:; in point button", "fan", []int64{0, 1, 1, 0, 1}, 0, 1, 0, 0, 1)
}

// Delayed links have the values of the scan before, at first their own initial ones, wherever they come from.
func TestP28_1Delayed(t *testing.T) {
	const head = "program p period 1:\n"
	one := analog(1000)
	checkRun(t, head+"  drive plain level 10 from point ratio delayed analog 1\n", 1, []int64{5, 6, 7}, one, analog(5), analog(6))
	checkRun(t, head+"  node n neg:\n    in point ratio\n  drive plain level 10 from node n delayed analog 1\n", 1, []int64{5, 6, 7}, one, analog(-5), analog(-6))
	checkRun(t, head+"  node n add:\n    in point ratio\n    in node n delayed analog 1\n  drive plain level 10 from node n\n", 1, []int64{5, 6, 7}, analog(1005), analog(1011), analog(1018))
	checkRun(t, head+"  node n add:\n    in point ratio delayed analog 1\n    in point ratio delayed analog 2\n  drive plain level 10 from node n\n", 1, []int64{5, 6, 7}, analog(3000), analog(10), analog(12))
	checkRun(t, head+"  node n add:\n    in point ratio\n    in analog 3 delayed analog 1\n  drive plain level 10 from node n\n", 1, []int64{5, 6, 7}, analog(1005), analog(3006), analog(3007))
	checkRun(t, head+"  node n neg:\n    in point ratio\n  drive plain level 10 from analog 3 delayed analog 1\n", 1, []int64{5, 6, 7}, one, analog(3000), analog(3000))
	checkRun(t, head+"  node a not:\n    in node b delayed binary on\n  node b and:\n    in node a\n    in point button\n  drive fan level 10 from node b\n", 1, []int64{1, 1, 1, 0, 1, 1}, binary(0), binary(1), binary(0), binary(0), binary(1), binary(0))
	checkRun(t, head+"  drive mode level 10 from point mode delayed multi 2\n", 1, []int64{16, 1, 1}, multi(2), multi(16), multi(1))
}

func TestP28_1Ports(t *testing.T) {
	p := loaded(t, `program ahu period 86400:
  node b not:
    in point door
  node a not:
    in point button delayed binary off
  node n pid:
    in point supply
    in point room
    in node a
  node idle neg:
    in point humid
  drive valve level 16 from node n
  drive fan level 3 from node b
  drive mode level 10 from point season
  drive alarm level 9 from binary on
  drive pump level 5 from point door delayed binary off
`)
	u := compiled(t, p)
	// Nodes that are not used read points as well.
	inputs := []compile.Port{{"button", api.Binary, 0}, {"door", api.Binary, 0}, {"humid", api.Analog, 0}, {"room", api.Analog, 0}, {"season", api.Multi, 0}, {"supply", api.Analog, 0}}
	outputs := []compile.Port{{"valve", api.Analog, 16}, {"fan", api.Binary, 3}, {"mode", api.Multi, 10}, {"alarm", api.Binary, 9}, {"pump", api.Binary, 5}}
	if u.Name != "ahu" || u.Period != 86400 || !slices.Equal(u.Inputs, inputs) || !slices.Equal(u.Outputs, outputs) {
		t.Errorf("the unit is %v", u)
	}
	got, e := compile.Run(u, [][]api.Value{{binary(1), binary(1), analog(0), analog(20000), multi(3), analog(21000)}, {binary(0), binary(0), analog(0), analog(20000), multi(1), analog(21000)}}, 1)
	want := [][]api.Value{{analog(1000), binary(0), multi(3), binary(1), binary(0)}, {analog(0), binary(1), multi(1), binary(1), binary(1)}}
	if e != api.OK || !reflect.DeepEqual(got, want) {
		t.Errorf("Run: %v, %d, not %v", got, e, want)
	}
	u = compiled(t, api.Program{Name: "p", Period: 1})
	if len(u.Inputs)+len(u.Outputs) != 0 {
		t.Errorf("nothing has the unit %v", u)
	}
	if got, e := compile.Run(u, [][]api.Value{nil, nil}, 1); e != api.OK || len(got) != 2 || len(got[0])+len(got[1]) != 0 {
		t.Errorf("Run of nothing: %v, %d", got, e)
	}
}

// large returns a program with so many nodes of a block, whose inputs are all the same link.
func large(block string, nodes, inputs int, l api.Link) api.Program {
	p := api.Program{Name: "p", Period: 1}
	for i := range nodes {
		n := api.Node{Name: "n" + strconv.Itoa(i), Block: block}
		for range inputs {
			n.Inputs = append(n.Inputs, l)
		}
		p.Nodes = append(p.Nodes, n)
	}
	return p
}

// many returns so many points of a kind.
func many(role, count int) []api.Point {
	var list []api.Point
	for i := range count {
		x := api.Point{Name: "x" + strconv.Itoa(i), Kind: api.Binary, Role: role}
		if role != api.Input {
			x.Default = binary(0)
		}
		list = append(list, x)
	}
	return list
}

// reader returns a program of nodes with eight inputs that read so many points.
func reader(count int) api.Program {
	p := large("and", (count+7)/8, 8, api.Link{Const: binary(1)})
	for i := range count {
		p.Nodes[i/8].Inputs[i%8] = api.Link{Point: "x" + strconv.Itoa(i)}
	}
	return p
}

func TestP28_1TooLarge(t *testing.T) {
	kept := api.Link{Const: binary(1), Delayed: true, Initial: binary(0)}
	pids := large("pid", 64, 3, api.Link{Const: analog(0)})
	for i := range pids.Nodes {
		pids.Nodes[i].Inputs[2] = kept
	}
	more := pids
	more.Drives = []api.Drive{{Point: "fan", Level: 10, From: kept}}
	fewer := more
	fewer.Nodes = slices.Clone(pids.Nodes)
	fewer.Nodes[0] = api.Node{Name: "n0", Block: "not", Inputs: []api.Link{kept}}
	longer := large("and", 33, 8, kept)
	for i, x := range []struct {
		p      api.Program
		points []api.Point
		want   api.Errno
	}{
		{pids, points(), api.OK}, {more, points(), api.ErrTooMany}, {fewer, points(), api.OK},
		{large("and", 32, 8, kept), nil, api.OK}, {longer, nil, api.ErrTooMany},
		{reader(256), many(api.Input, 300), api.OK}, {reader(257), many(api.Input, 300), api.ErrTooMany},
	} {
		u, e := compile.Compile(x.p, x.points)
		if e != x.want || e == api.OK && compile.Check(u) != api.OK || e != api.OK && !reflect.DeepEqual(u, compile.Unit{}) {
			t.Errorf("%d: %d, not %d, and Check %d", i, e, x.want, compile.Check(u))
		}
	}
	// The points that are read are counted once each, however many links read them.
	u, e := compile.Compile(large("and", 64, 8, api.Link{Point: "x7"}), many(api.Input, 300))
	if e != api.OK || len(u.Inputs) != 1 {
		t.Errorf("one point: %v, %d", u.Inputs, e)
	}
}

// A program as large as possible has code within the limits.
func TestP28_1Largest(t *testing.T) {
	p := reader(256)
	for i := range 32 {
		n := api.Node{Name: "m" + strconv.Itoa(i), Block: []string{"or", "and"}[i%2]}
		for k := range 8 {
			n.Inputs = append(n.Inputs, []api.Link{{Const: binary(int64(k % 2))}, {Node: "n" + strconv.Itoa(k)}, {Point: "x" + strconv.Itoa(8*i+k)}}[(i+k)%3])
		}
		p.Nodes = append(p.Nodes, n)
	}
	for i := range 256 {
		from := api.Link{Point: "x" + strconv.Itoa(255-i), Delayed: true, Initial: binary(int64(i % 2))}
		p.Drives = append(p.Drives, api.Drive{Point: "x" + strconv.Itoa(i), Level: 10, From: from})
	}
	u, e := compile.Compile(p, many(api.Held, 256))
	if e != api.OK || compile.Check(u) != api.OK || u.Code.States != 256 {
		t.Fatalf("Compile: %d, Check: %d", e, compile.Check(u))
	}
	if _, e := compile.Encode(u); e != api.OK {
		t.Errorf("Encode: %d", e)
	}
	var inputs [2][]api.Value
	var settings [2][]api.Setting
	for i := range inputs {
		for k, port := range u.Inputs {
			v := binary(int64((k*k + i) % 2))
			inputs[i], settings[i] = append(inputs[i], v), append(settings[i], api.Setting{Point: port.Point, Value: v})
		}
	}
	got, e := compile.Run(u, inputs[:], 1)
	want, f := interp.Run(p, settings[:], 1)
	if e != api.OK || f != api.OK || !reflect.DeepEqual(got, want) {
		t.Errorf("Run: %v, %d, not %v, %d", got, e, want, f)
	}
}

func TestP28_1Errors(t *testing.T) {
	const cycle = "  node a not:\n    in node b\n  node b not:\n    in node a\n"
	const clash = "  node c not:\n    in point room\n"
	kept := func(p api.Program) api.Program {
		q := large("and", 33, 8, api.Link{Const: binary(1), Delayed: true, Initial: binary(0)})
		p.Nodes = append(p.Nodes, q.Nodes...)
		return p
	}
	source := func(lines string) api.Program {
		return loaded(t, "program p period 1:\n"+lines+"  drive fan level 10 from binary on\n")
	}
	named := source("")
	named.Name = "P"
	twice := append(points(), points()[3])
	for i, x := range []struct {
		p      api.Program
		points []api.Point
		want   api.Errno
	}{
		{source(""), points(), api.OK},
		{source(""), twice, api.ErrInvalid}, {source(""), append(points(), api.Point{}), api.ErrInvalid}, {named, twice, api.ErrInvalid}, {named, points(), api.ErrName}, {source(""), nil, api.ErrUnknown},
		{source("  node a none\n"), points(), api.ErrUnknown}, {source("  node a not:\n    in point none\n"), points(), api.ErrUnknown}, {source("  drive fan level 10 from binary on\n"), points(), api.ErrDuplicate}, {source("  drive pump level 8 from binary on\n"), points(), api.ErrRange}, {source("  drive room level 10 from analog 0\n"), points(), api.ErrType}, {source("  node a not\n"), points(), api.ErrInvalid}, {source("  node a limit:\n    in point room\n    param low 5\n    param high 4\n"), points(), api.ErrConflict},
		{large("not", 65, 1, api.Link{Const: binary(0)}), points(), api.ErrTooMany},
		{source(clash), points(), api.ErrType}, {source("  drive pump level 10 from analog 1\n"), points(), api.ErrType}, {source(clash + cycle), points(), api.ErrType}, {kept(source(clash)), points(), api.ErrType}, {kept(source(clash + cycle)), points(), api.ErrType},
		{source(cycle), points(), api.ErrCycle}, {source("  node a not:\n    in node a\n"), points(), api.ErrCycle}, {kept(source(cycle)), points(), api.ErrCycle},
		{kept(source("")), points(), api.ErrTooMany}, {kept(named), points(), api.ErrName},
	} {
		u, e := compile.Compile(x.p, x.points)
		if e != x.want || e != api.OK && !reflect.DeepEqual(u, compile.Unit{}) {
			t.Errorf("%d: %v, %d, not %d", i, u, e, x.want)
		}
	}
}

// Compiling neither changes nor keeps a program and points.
func TestP28_1Memory(t *testing.T) {
	read := func() api.Program {
		return loaded(t, "program p period 1:\n  node n limit:\n    param high 5\n    param low 1\n    in node m delayed analog 2\n  node m neg:\n    in point ratio\n  drive plain level 10 from node n\n")
	}
	p, list := read(), points()
	u := compiled(t, p)
	first, _ := compile.Compile(p, list)
	for i := range u.Code.Calls {
		u.Code.Calls[i].Params = append(u.Code.Calls[i].Params[:0], api.Param{})
		u.Code.Calls[i].In[0] = 99
	}
	u.Initial[0], u.Inputs[0], u.Outputs[0] = 9, compile.Port{}, compile.Port{}
	if !program.Equal(p, read()) || !reflect.DeepEqual(list, points()) {
		t.Errorf("the program or the points were changed: %v", p)
	}
	p.Nodes[0].Params[0].Value, p.Nodes[0].Inputs[0].Initial.N = 77, 77
	if second := compiled(t, read()); !compile.Equal(first, second) {
		t.Errorf("%v, and then %v", first, second)
	}
}
