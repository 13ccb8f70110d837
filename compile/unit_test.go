package compile_test

import (
	"math"
	"reflect"
	"slices"
	"strconv"
	"strings"
	"testing"

	"plenum/api"
	"plenum/codec"
	"plenum/compile"
	"plenum/machine"
)

// sample is a valid unit: it hands on its three inputs, and keeps the last one for an edge.
func sample() compile.Unit {
	return compile.Unit{
		Name: "p", Period: 5,
		Code: api.Code{
			Regs: 4, Inputs: 3, Outputs: 3, States: 2,
			Instrs: []api.Instr{
				{Op: machine.OpIn, A: 0, N: 0}, {Op: machine.OpOut, B: 0, N: 2},
				{Op: machine.OpIn, A: 1, N: 1}, {Op: machine.OpOut, B: 1, N: 0},
				{Op: machine.OpIn, A: 2, N: 2}, {Op: machine.OpCall}, {Op: machine.OpOut, B: 3, N: 1}, {Op: machine.OpPut, B: 2, N: 1},
			},
			Calls: []api.Call{{Block: "ondelay", Params: []api.Param{{Name: "time", Value: 5}}, State: 0, In: []int{2}, Out: []int{3}}},
		},
		Initial: []int64{0, 7},
		Inputs:  []compile.Port{{"a", api.Analog, 0}, {"b", api.Multi, 0}, {"c", api.Binary, 0}},
		Outputs: []compile.Port{{"z", api.Multi, 16}, {"y", api.Binary, 1}, {"a", api.Analog, 8}},
	}
}

// copied returns a unit in new memory.
func copied(u compile.Unit) compile.Unit {
	u.Initial, u.Inputs, u.Outputs = slices.Clone(u.Initial), slices.Clone(u.Inputs), slices.Clone(u.Outputs)
	u.Code.Instrs, u.Code.Calls = slices.Clone(u.Code.Instrs), slices.Clone(u.Code.Calls)
	for i, x := range u.Code.Calls {
		u.Code.Calls[i].Params, u.Code.Calls[i].In, u.Code.Calls[i].Out = slices.Clone(x.Params), slices.Clone(x.In), slices.Clone(x.Out)
	}
	return u
}

// inputs are values that fit the sample.
func inputs() []api.Value { return []api.Value{analog(20500), multi(3), binary(1)} }

// wrong is a change of the sample with an error of Check.
type wrong struct {
	e      api.Errno
	change func(u *compile.Unit)
}

// unitErrors are the changes, in the order in which they are found. The changes of each list are found together.
func unitErrors() [][]wrong {
	var names, ranges, kinds, sizes []wrong
	bad := func(list *[]wrong, e api.Errno, change func(u *compile.Unit)) {
		*list = append(*list, wrong{e, change})
	}
	for _, name := range []string{"", "P", "a/b", "a b", "9", "ä", "a\x00", strings.Repeat("a", 25)} {
		bad(&names, api.ErrName, func(u *compile.Unit) { u.Name = name })
		bad(&names, api.ErrName, func(u *compile.Unit) { u.Inputs[2].Point = name })
		bad(&names, api.ErrName, func(u *compile.Unit) { u.Outputs[2].Point = name })
	}
	for _, n := range []int{-1, math.MinInt, math.MaxInt} {
		bad(&ranges, api.ErrRange, func(u *compile.Unit) { u.Period = n })
		bad(&ranges, api.ErrRange, func(u *compile.Unit) { u.Inputs[1].Level = n })
		bad(&ranges, api.ErrRange, func(u *compile.Unit) { u.Outputs[1].Level = n })
		bad(&kinds, api.ErrType, func(u *compile.Unit) { u.Inputs[2].Kind = n })
		bad(&kinds, api.ErrType, func(u *compile.Unit) { u.Outputs[0].Kind = n })
	}
	bad(&ranges, api.ErrRange, func(u *compile.Unit) { u.Period = 0 })
	bad(&ranges, api.ErrRange, func(u *compile.Unit) { u.Period = api.DaySeconds + 1 })
	bad(&ranges, api.ErrRange, func(u *compile.Unit) { u.Inputs[0].Level = 1 })
	bad(&ranges, api.ErrRange, func(u *compile.Unit) { u.Outputs[2].Level = 0 })
	bad(&ranges, api.ErrRange, func(u *compile.Unit) { u.Outputs[2].Level = 17 })
	for _, kind := range []int{0, 4} {
		bad(&kinds, api.ErrType, func(u *compile.Unit) { u.Inputs[0].Kind = kind })
		bad(&kinds, api.ErrType, func(u *compile.Unit) { u.Outputs[2].Kind = kind })
	}
	code := []wrong{
		{api.ErrTooMany, func(u *compile.Unit) { u.Code.Regs = 513 }}, {api.ErrInvalid, func(u *compile.Unit) { u.Code.Regs = -1 }}, {api.ErrUnknown, func(u *compile.Unit) { u.Code.Calls[0].Block = "none" }}, {api.ErrRange, func(u *compile.Unit) { u.Code.Calls[0].Params[0].Value = -1 }},
		{api.ErrInvalid, func(u *compile.Unit) { u.Code.Instrs[0].N = 3 }}, {api.ErrConflict, func(u *compile.Unit) { u.Code.Instrs[7].N = 0 }}, {api.ErrState, func(u *compile.Unit) { u.Code.Instrs[0] = api.Instr{Op: machine.OpConst, A: 1} }},
	}
	bad(&sizes, api.ErrInvalid, func(u *compile.Unit) { u.Initial = nil })
	bad(&sizes, api.ErrInvalid, func(u *compile.Unit) { u.Initial = u.Initial[:1] })
	bad(&sizes, api.ErrInvalid, func(u *compile.Unit) { u.Initial = append(u.Initial, 0) })
	bad(&sizes, api.ErrInvalid, func(u *compile.Unit) { u.Code.States = 3 })
	bad(&sizes, api.ErrInvalid, func(u *compile.Unit) { u.Inputs = append(u.Inputs, compile.Port{Point: "d", Kind: api.Binary}) })
	bad(&sizes, api.ErrInvalid, func(u *compile.Unit) { u.Code.Inputs = 4 })
	bad(&sizes, api.ErrInvalid, func(u *compile.Unit) { u.Outputs = append(u.Outputs, compile.Port{"d", api.Binary, 10}) })
	bad(&sizes, api.ErrInvalid, func(u *compile.Unit) { u.Code.Outputs = 4 })
	twice := []wrong{
		{api.ErrDuplicate, func(u *compile.Unit) { u.Inputs[1].Point = "a" }}, {api.ErrDuplicate, func(u *compile.Unit) { u.Inputs[2].Point = "b" }}, {api.ErrDuplicate, func(u *compile.Unit) { u.Inputs[0], u.Inputs[1] = u.Inputs[1], u.Inputs[0] }}, {api.ErrDuplicate, func(u *compile.Unit) { u.Inputs[2].Point = "a" }}, {api.ErrDuplicate, func(u *compile.Unit) { u.Inputs[0].Point = "b0" }},
		{api.ErrDuplicate, func(u *compile.Unit) { u.Outputs[2].Point = "z" }}, {api.ErrDuplicate, func(u *compile.Unit) { u.Outputs[1].Point = "z" }}, {api.ErrDuplicate, func(u *compile.Unit) { u.Outputs[1].Point = "a" }},
	}
	return [][]wrong{names, ranges, kinds, code, sizes, twice}
}

// changed returns the sample with changes.
func changed(changes ...func(u *compile.Unit)) compile.Unit {
	u := sample()
	for _, change := range changes {
		change(&u)
	}
	return u
}

// encoded returns the encoding of a unit, with a text in place of the code.
func encoded(u compile.Unit, code string) string {
	w := &codec.Writer{}
	w.List(6)
	w.Text(u.Name)
	w.Signed(int64(u.Period))
	w.Text(code)
	w.List(len(u.Initial))
	for _, n := range u.Initial {
		w.Signed(n)
	}
	for _, ports := range [][]compile.Port{u.Inputs, u.Outputs} {
		w.List(len(ports))
		for _, p := range ports {
			w.List(3)
			w.Text(p.Point)
			w.Signed(int64(p.Kind))
			w.Signed(int64(p.Level))
		}
	}
	return w.Data()
}

// check compares the errors of all functions with a unit with one.
func check(t *testing.T, u compile.Unit, want api.Errno, place string) {
	t.Helper()
	before := copied(u)
	if e := compile.Check(u); e != want {
		t.Errorf("%s, Check: %d, not %d", place, e, want)
	}
	// Scan and Run have further errors, which come later.
	for _, list := range [][]api.Value{inputs(), nil, {binary(0), binary(0), binary(0)}} {
		for _, dt := range []int{1, 0} {
			values, state, e := compile.Scan(u, u.Initial, list, dt)
			lists, f := compile.Run(u, [][]api.Value{list, list}, dt)
			if want != api.OK && (e != want || f != want || len(values)+len(state)+len(lists) > 0) {
				t.Errorf("%s, Scan and Run of %v: %d, %d, not %d, or with results: %v, %v, %v", place, list, e, f, want, values, state, lists)
			}
		}
	}
	if lists, e := compile.Run(u, nil, 0); e != want || len(lists) > 0 {
		t.Errorf("%s, Run of no lists: %v, %d, not %d", place, lists, e, want)
	}
	if s, e := compile.Encode(u); e != want || e != api.OK && s != "" {
		t.Errorf("%s, Encode: %x, %d, not %d", place, s, e, want)
	}
	if !reflect.DeepEqual(u, before) {
		t.Errorf("%s: the unit was changed: %v", place, u)
	}
}

func TestP28_2Errors(t *testing.T) {
	check(t, sample(), api.OK, "the sample")
	check(t, compile.Unit{Name: "p", Period: api.DaySeconds}, api.OK, "nothing")
	for i, list := range unitErrors() {
		for k, w := range list {
			check(t, changed(w.change), w.e, strconv.Itoa(i)+"/"+strconv.Itoa(k))
		}
	}
}

// An error that is found earlier comes first.
func TestP28_2FirstErrors(t *testing.T) {
	steps := unitErrors()
	for i, list := range steps {
		for k, w := range list {
			for m, later := range steps[i+1:] {
				for n, x := range later {
					u := changed(x.change, w.change)
					if e := compile.Check(u); e != w.e {
						t.Errorf("the changes %d/%d and %d/%d: %d, not %d", i, k, i+1+m, n, e, w.e)
					}
				}
			}
		}
	}
}

// What is just right is not refused.
func TestP28_2Right(t *testing.T) {
	for i, change := range []func(u *compile.Unit){
		func(u *compile.Unit) { u.Name = strings.Repeat("a", 24) }, func(u *compile.Unit) { u.Name = "a" },
		func(u *compile.Unit) { u.Period = 1 }, func(u *compile.Unit) { u.Period = api.DaySeconds },
		func(u *compile.Unit) { u.Outputs[0].Level, u.Outputs[1].Level = 2, 6 },
		func(u *compile.Unit) { u.Initial = []int64{math.MaxInt64, math.MinInt64} },
		func(u *compile.Unit) { u.Outputs[0].Point, u.Outputs[1].Point = "b", "c" },
		func(u *compile.Unit) { u.Inputs[1].Point, u.Inputs[2].Point = "a0", "a_" },
	} {
		check(t, changed(change), api.OK, strconv.Itoa(i))
	}
}

func TestP28_2Equal(t *testing.T) {
	if !compile.Equal(sample(), sample()) || !compile.Equal(compile.Unit{}, compile.Unit{}) {
		t.Error("a unit is not equal to itself")
	}
	empty := compile.Unit{Initial: []int64{}, Inputs: []compile.Port{}, Outputs: []compile.Port{}, Code: api.Code{Instrs: []api.Instr{}, Calls: []api.Call{}}}
	if !compile.Equal(compile.Unit{}, empty) || !compile.Equal(empty, compile.Unit{}) {
		t.Error("nil and empty lists are not equal")
	}
	none := changed(func(u *compile.Unit) { u.Code.Calls[0] = api.Call{} })
	other := changed(func(u *compile.Unit) { u.Code.Calls[0] = api.Call{Params: []api.Param{}, In: []int{}, Out: []int{}} })
	if !compile.Equal(none, other) {
		t.Error("nil and empty lists of a call are not equal")
	}
	for i, change := range []func(u *compile.Unit){
		func(u *compile.Unit) { u.Name = "q" }, func(u *compile.Unit) { u.Period = 6 }, func(u *compile.Unit) { u.Initial[1] = 8 }, func(u *compile.Unit) { u.Initial = u.Initial[:1] },
		func(u *compile.Unit) { u.Code.Regs = 5 }, func(u *compile.Unit) { u.Code.Inputs = 4 }, func(u *compile.Unit) { u.Code.Outputs = 4 }, func(u *compile.Unit) { u.Code.States = 3 },
		func(u *compile.Unit) { u.Code.Instrs[0].Op = 2 }, func(u *compile.Unit) { u.Code.Instrs[0].A = 1 }, func(u *compile.Unit) { u.Code.Instrs[0].B = 1 }, func(u *compile.Unit) { u.Code.Instrs[0].C = 1 }, func(u *compile.Unit) { u.Code.Instrs[0].N = 1 }, func(u *compile.Unit) { u.Code.Instrs = u.Code.Instrs[:7] },
		func(u *compile.Unit) { u.Code.Calls = nil }, func(u *compile.Unit) { u.Code.Calls[0].Block = "x" }, func(u *compile.Unit) { u.Code.Calls[0].Params = nil }, func(u *compile.Unit) { u.Code.Calls[0].Params[0].Name = "x" }, func(u *compile.Unit) { u.Code.Calls[0].Params[0].Value = 6 }, func(u *compile.Unit) { u.Code.Calls[0].State = 1 }, func(u *compile.Unit) { u.Code.Calls[0].In[0] = 1 }, func(u *compile.Unit) { u.Code.Calls[0].Out = nil },
		func(u *compile.Unit) { u.Inputs[0].Point = "x" }, func(u *compile.Unit) { u.Inputs[0].Kind = 2 }, func(u *compile.Unit) { u.Inputs[0].Level = 2 }, func(u *compile.Unit) { u.Inputs = u.Inputs[:2] },
		func(u *compile.Unit) { u.Outputs[0].Point = "x" }, func(u *compile.Unit) { u.Outputs[0].Kind = 2 }, func(u *compile.Unit) { u.Outputs[0].Level = 2 }, func(u *compile.Unit) { u.Outputs = nil }, func(u *compile.Unit) { u.Inputs, u.Outputs = u.Outputs, u.Inputs },
	} {
		if compile.Equal(sample(), changed(change)) || compile.Equal(changed(change), sample()) || !compile.Equal(changed(change), changed(change)) {
			t.Errorf("Equal behind the change %d", i)
		}
	}
}

func TestP28_3Scan(t *testing.T) {
	u := sample()
	values, state, e := compile.Scan(u, []int64{0, 7}, inputs(), 5)
	if e != api.OK || !slices.Equal(values, []api.Value{multi(3), binary(0), analog(20500)}) || !slices.Equal(state, []int64{1, 1}) {
		t.Errorf("the first scan: %v, %v, %d", values, state, e)
	}
	values, state, e = compile.Scan(u, state, []api.Value{analog(-1), multi(16), binary(1)}, 5)
	if e != api.OK || !slices.Equal(values, []api.Value{multi(16), binary(1), analog(-1)}) || !slices.Equal(state, []int64{6, 1}) {
		t.Errorf("the second scan: %v, %v, %d", values, state, e)
	}
	values, state, e = compile.Scan(u, state, []api.Value{analog(0), multi(1), binary(0)}, api.DaySeconds)
	if e != api.OK || !slices.Equal(values, []api.Value{multi(1), binary(0), analog(0)}) || !slices.Equal(state, []int64{0, 0}) {
		t.Errorf("the third scan: %v, %v, %d", values, state, e)
	}
}

// emitter returns a unit with an output of a kind that gives its state.
func emitter(kind int, n int64) compile.Unit {
	return compile.Unit{Name: "p", Period: 1, Code: api.Code{Regs: 1, Outputs: 1, States: 1, Instrs: []api.Instr{{Op: machine.OpGet}, {Op: machine.OpOut}}}, Initial: []int64{n}, Outputs: []compile.Port{{"x", kind, 10}}}
}

func TestP28_3Outputs(t *testing.T) {
	const most = api.MaxAnalog
	for kind, cases := range map[int][][2]int64{
		api.Analog: {{0, 0}, {-5, -5}, {most, most}, {-most, -most}, {most + 1, most}, {-most - 1, -most}, {math.MaxInt64, most}, {math.MinInt64, -most}},
		api.Binary: {{0, 0}, {1, 1}, {2, 1}, {-1, 1}, {math.MaxInt64, 1}, {math.MinInt64, 1}},
		api.Multi:  {{0, 1}, {1, 1}, {2, 2}, {16, 16}, {17, 16}, {-1, 1}, {math.MaxInt64, 16}, {math.MinInt64, 1}},
	} {
		for _, x := range cases {
			u, want := emitter(kind, x[0]), api.Value{Kind: kind, N: x[1]}
			values, state, e := compile.Scan(u, u.Initial, nil, 1)
			lists, f := compile.Run(u, [][]api.Value{nil, nil}, 1)
			if e != api.OK || f != api.OK || !slices.Equal(values, []api.Value{want}) || !slices.Equal(state, u.Initial) || !reflect.DeepEqual(lists, [][]api.Value{{want}, {want}}) {
				t.Errorf("%d of the kind %d: %v, %v, %d, %v, %d", x[0], kind, values, state, e, lists, f)
			}
		}
	}
}

func TestP28_3Inputs(t *testing.T) {
	u := sample()
	replaced := func(i int, v api.Value) []api.Value {
		list := inputs()
		list[i] = v
		return list
	}
	for i, list := range map[int][]api.Value{0: {analog(api.MaxAnalog), analog(-api.MaxAnalog), analog(0)}, 1: {multi(1), multi(2), multi(16)}, 2: {binary(0), binary(1)}} {
		for _, v := range list {
			values, _, e := compile.Scan(u, u.Initial, replaced(i, v), 1)
			if place := []int{2, 0, 1}[i]; e != api.OK || i < 2 && values[place] != v {
				t.Errorf("the input %d is %v: %v, %d", i, v, values, e)
			}
		}
	}
	bad := map[int][]api.Value{0: {analog(api.MaxAnalog + 1), analog(-api.MaxAnalog - 1), analog(math.MinInt64), binary(1), multi(1), {}, {Kind: 9, N: 1}, {Kind: -1}}, 1: {multi(0), multi(17), multi(-1), multi(math.MaxInt64), binary(1), analog(1), {}}, 2: {binary(2), binary(-1), binary(math.MinInt64), analog(1), multi(1), {}}}
	for i, list := range bad {
		for _, v := range list {
			values, state, e := compile.Scan(u, u.Initial, replaced(i, v), 1)
			lists, f := compile.Run(u, [][]api.Value{inputs(), replaced(i, v)}, 1)
			if e != api.ErrType || f != api.ErrType || len(values)+len(state)+len(lists) > 0 {
				t.Errorf("the input %d is %v: %v, %v, %d, %v, %d", i, v, values, state, e, lists, f)
			}
		}
	}
}

func TestP28_3Errors(t *testing.T) {
	u := sample()
	good, odd := inputs(), []api.Value{binary(1), multi(3), binary(1)}
	zeros := []int64{0, 0}
	for i, x := range []struct {
		state  []int64
		inputs []api.Value
		dt     int
		want   api.Errno
	}{
		{zeros, good, 1, api.OK}, {zeros, good, api.DaySeconds, api.OK},
		{nil, good, 1, api.ErrInvalid}, {zeros[:1], good, 1, api.ErrInvalid}, {make([]int64, 3), good, 1, api.ErrInvalid},
		{zeros, nil, 1, api.ErrInvalid}, {zeros, good[:2], 1, api.ErrInvalid}, {zeros, append(inputs(), binary(1)), 1, api.ErrInvalid},
		{zeros, good, 0, api.ErrInvalid}, {zeros, good, -1, api.ErrInvalid}, {zeros, good, api.DaySeconds + 1, api.ErrInvalid}, {zeros, good, math.MaxInt, api.ErrInvalid}, {zeros, good, math.MinInt, api.ErrInvalid},
		{zeros, odd, 1, api.ErrType}, {zeros, odd, 0, api.ErrInvalid}, {nil, odd, 1, api.ErrInvalid}, {zeros, odd[:2], 1, api.ErrInvalid},
		// The state is not one of the block's.
		{[]int64{7, 0}, good, 1, api.ErrInvalid}, {[]int64{7, 0}, odd, 1, api.ErrType}, {[]int64{6, math.MinInt64}, good, 1, api.OK},
	} {
		values, state, e := compile.Scan(u, x.state, x.inputs, x.dt)
		if e != x.want || e != api.OK && len(values)+len(state) > 0 {
			t.Errorf("%d: %v, %v, %d, not %d", i, values, state, e, x.want)
		}
	}
	late := sample()
	late.Initial[0] = 7
	for i, x := range []struct {
		u    compile.Unit
		list [][]api.Value
		dt   int
		want api.Errno
	}{
		{u, nil, 0, api.OK}, {u, nil, math.MinInt, api.OK}, {u, [][]api.Value{good}, 0, api.ErrInvalid}, {u, [][]api.Value{good, good}, api.DaySeconds + 1, api.ErrInvalid},
		// The errors of a scan come before those of later ones.
		{u, [][]api.Value{good, odd, nil}, 1, api.ErrType}, {u, [][]api.Value{good, nil, odd}, 1, api.ErrInvalid}, {u, [][]api.Value{good, good, good, odd}, 1, api.ErrType},
		{late, nil, 1, api.OK}, {late, [][]api.Value{good}, 1, api.ErrInvalid}, {late, [][]api.Value{good, odd}, 1, api.ErrInvalid}, {late, [][]api.Value{odd, good}, 1, api.ErrType},
	} {
		if lists, e := compile.Run(x.u, x.list, x.dt); e != x.want || len(lists) > 0 {
			t.Errorf("Run %d: %v, %d, not %d", i, lists, e, x.want)
		}
	}
	stage := compile.Unit{Name: "p", Period: 1, Code: api.Code{Regs: 1, States: 2, Instrs: []api.Instr{{Op: machine.OpConst, N: 5}, {Op: machine.OpCall}}, Calls: []api.Call{{Block: "stage", In: []int{0}, Out: []int{0}}}}, Initial: []int64{2, 0}}
	if _, e := compile.Run(stage, [][]api.Value{nil}, 1); e != api.ErrState {
		t.Errorf("Run with a state that stage cannot have: %d", e)
	}
	if _, _, e := compile.Scan(stage, []int64{0, math.MaxInt64}, nil, 1); e != api.ErrState {
		t.Errorf("Scan with a state that stage cannot have: %d", e)
	}
}

// Run begins with the state at first, and each scan goes on from the one before.
func TestP28_3Run(t *testing.T) {
	u := sample()
	u.Initial[0] = 4
	lists, e := compile.Run(u, [][]api.Value{inputs(), inputs(), inputs()}, 1)
	off, on := []api.Value{multi(3), binary(0), analog(20500)}, []api.Value{multi(3), binary(1), analog(20500)}
	if want := [][]api.Value{off, on, on}; e != api.OK || !reflect.DeepEqual(lists, want) {
		t.Errorf("Run: %v, %d", lists, e)
	}
	lists[1][0] = multi(9)
	_ = append(lists[1], multi(9))
	if lists[2][0] != multi(3) || !compile.Equal(u, changed(func(u *compile.Unit) { u.Initial[0] = 4 })) {
		t.Errorf("lists of Run share memory: %v", lists)
	}
	state, list := []int64{0, 0}, inputs()
	_, next, _ := compile.Scan(u, state, list, 1)
	next[0] = 99
	if !slices.Equal(state, []int64{0, 0}) || !slices.Equal(list, inputs()) {
		t.Errorf("Scan changes its arguments: %v, %v", state, list)
	}
}
