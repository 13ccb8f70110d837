package machine_test

import (
	"math"
	"math/rand"
	"reflect"
	"slices"
	"strings"
	"testing"

	"plenum/api"
	"plenum/block"
	"plenum/machine"
	"plenum/pid"
	"plenum/psychro"
	"plenum/sequencer"
	"plenum/timer"
)

// ends are numbers at the ends of ranges.
func ends() []int64 {
	return []int64{0, 1, -1, 2, 500, 1000, -1500, api.MaxAnalog, -api.MaxAnalog, api.MaxAnalog + 1, -api.MaxAnalog - 1, math.MaxInt64, math.MinInt64, math.MinInt64 + 1}
}

func TestP27_2Start(t *testing.T) {
	for _, states := range []int{0, 1, 7, 256} {
		state, e := machine.Start(api.Code{States: states})
		if e != api.OK || len(state) != states || slices.ContainsFunc(state, func(n int64) bool { return n != 0 }) {
			t.Errorf("Start of %d states: %v, %d", states, state, e)
		}
	}
	if state, e := machine.Start(sample()); e != api.OK || !slices.Equal(state, []int64{0, 0, 0, 0, 0}) {
		t.Errorf("Start of the sample: %v, %d", state, e)
	}
}

// checkRun compares the outputs and the state after a run.
func checkRun(t *testing.T, c api.Code, state, inputs []int64, dt int, outputs, next []int64) {
	t.Helper()
	got, after, e := machine.Run(c, state, inputs, dt)
	if e != api.OK || !slices.Equal(got, outputs) || !slices.Equal(after, next) {
		t.Errorf("Run with the state %v and the inputs %v: %v, %v, %d, not %v, %v", state, inputs, got, after, e, outputs, next)
	}
}

func TestP27_2Examples(t *testing.T) {
	for in, want := range map[int64]int64{1500: 750, 1: 1, -3: -2, 0: 0, math.MaxInt64: api.MaxAnalog / 2} {
		checkRun(t, half(), nil, []int64{in}, 1, []int64{want}, nil)
	}
	for in, want := range map[int64]int64{0: 0, 1: 7, -1: 7, math.MinInt64: 7} {
		checkRun(t, chosen(), nil, []int64{in}, 1, []int64{want}, nil)
	}
	checkRun(t, api.Code{}, nil, nil, 1, nil, nil)
	// limit gives at most 1000; ondelay waits for 5 seconds.
	checkRun(t, sample(), []int64{3, 4, 5, 0, 7}, []int64{5000, 0}, 1, []int64{1000, 0}, []int64{3, 4, 5, 0, 1000})
	checkRun(t, sample(), []int64{3, 4, 5, 0, 7}, []int64{5000, 1}, 1, []int64{2500, 0}, []int64{3, 4, 5, 1, 2500})
	checkRun(t, sample(), []int64{3, 4, 5, 1, 2500}, []int64{-5, 2}, 5, []int64{-3, 1}, []int64{3, 4, 5, 6, -3})
}

// What an operation on two registers gives, and that it is the same if a register is used for more than one operand.
func TestP27_2TwoRegisters(t *testing.T) {
	const most = api.MaxAnalog
	for source, cases := range map[string][][3]int64{
		"add":   {{1, 2, 3}, {-5, 5, 0}, {most, 1, most}, {-most, -1, -most}, {math.MaxInt64, math.MaxInt64, most}, {math.MaxInt64, -1, most - 1}},
		"sub":   {{1, 2, -1}, {5, 5, 0}, {-most, 1, -most}, {0, math.MinInt64, most}, {math.MinInt64, math.MinInt64, 0}},
		"mul":   {{1500, 1500, 2250}, {1, 500, 1}, {-1, 500, -1}, {1, 499, 0}, {most, 2000, most}, {math.MinInt64, 1000, -most}},
		"div":   {{1000, 3000, 333}, {2000, 3000, 667}, {5, 0, most}, {-5, 0, -most}, {0, 0, 0}, {math.MaxInt64, math.MaxInt64, 1000}},
		"min":   {{1, 2, 1}, {2, 1, 1}, {-3, -2, -3}, {most + 1, most + 2, most + 1}, {math.MinInt64, math.MaxInt64, math.MinInt64}},
		"max":   {{1, 2, 2}, {2, 1, 2}, {-3, -2, -2}, {most + 1, most + 2, most + 2}, {math.MinInt64, math.MaxInt64, math.MaxInt64}},
		"less":  {{1, 2, 1}, {2, 1, 0}, {2, 2, 0}, {most + 1, most + 2, 1}, {math.MinInt64, math.MaxInt64, 1}, {math.MaxInt64, math.MinInt64, 0}, {-1, 0, 1}},
		"equal": {{1, 2, 0}, {2, 1, 0}, {2, 2, 1}, {most + 1, most + 2, 0}, {math.MinInt64, math.MinInt64, 1}, {-1, 1, 0}},
	} {
		for _, x := range cases {
			inputs, want := []int64{x[0], x[1]}, []int64{x[2]}
			checkRun(t, built([4]int{3, 2, 1, 0}, "in r0 0; in r1 1; "+source+" r2 r0 r1; out 0 r2"), nil, inputs, 1, want, nil)
			checkRun(t, built([4]int{3, 2, 1, 0}, "in r0 0; in r1 1; "+source+" r0 r0 r1; out 0 r0"), nil, inputs, 1, want, nil)
			checkRun(t, built([4]int{3, 2, 1, 0}, "in r0 0; in r1 1; "+source+" r1 r0 r1; out 0 r1"), nil, inputs, 1, want, nil)
			if x[0] == x[1] {
				checkRun(t, built([4]int{3, 2, 1, 0}, "in r0 0; "+source+" r0 r0 r0; out 0 r0"), nil, inputs, 1, want, nil)
			}
		}
	}
}

func TestP27_2OneRegister(t *testing.T) {
	for _, n := range ends() {
		not := int64(0)
		if n == 0 {
			not = 1
		}
		checkRun(t, built([4]int{2, 1, 2, 0}, "in r0 0; move r1 r0; not r0 r1; out 1 r0; out 0 r1"), nil, []int64{n}, 1, []int64{n, not}, nil)
		c := built([4]int{1, 0, 1, 0}, "const r0 0; out 0 r0")
		c.Instrs[0].N = n
		checkRun(t, c, nil, nil, 1, []int64{n}, nil)
		// A branch is made if the register is 0, a jump always.
		checkRun(t, built([4]int{2, 1, 2, 0}, "in r0 0; const r1 7; branch r0 4; out 0 r1; out 1 r1"), nil, []int64{n}, 1, []int64{7 * (1 - not), 7}, nil)
		checkRun(t, built([4]int{2, 1, 2, 0}, "in r0 0; jump 3; out 0 r0; out 1 r0"), nil, []int64{n}, 1, []int64{0, n}, nil)
	}
}

// What is read is what was written last; outputs that are not written are 0.
func TestP27_2LastWritten(t *testing.T) {
	checkRun(t, built([4]int{2, 2, 3, 2}, "get r0 0; out 0 r0; in r1 1; put 0 r1; get r0 0; out 1 r0; const r1 9; put 0 r1; put 0 r0"), []int64{5, 6}, []int64{1, 2}, 1, []int64{5, 2, 0}, []int64{2, 6})
	checkRun(t, built([4]int{2, 0, 1, 1}, "const r0 1; const r0 2; out 0 r0; const r0 3; out 0 r0; const r0 4; put 0 r0"), []int64{8}, nil, 1, []int64{3}, []int64{4})
	checkRun(t, built([4]int{1, 0, 2, 2}, "const r0 5; jump 5; out 0 r0; put 0 r0; out 1 r0"), []int64{1, math.MinInt64}, nil, 1, []int64{0, 0}, []int64{1, math.MinInt64})
}

// evaluate returns the new state and the output of a block, by the function of its layer.
func evaluate(name string, params, state []int64, in []api.Value, dt int) ([]int64, api.Value, api.Errno) {
	switch name {
	case "count", "edge", "hyst", "latch", "minrun", "offdelay", "ondelay", "pulse":
		return timer.Step(name, params, state, in, dt)
	case "pid", "rate":
		return pid.Step(name, params, state, in, dt)
	case "stage", "steps":
		return sequencer.Step(name, params, state, in, dt)
	case "dewpoint", "enthalpy":
		v, e := psychro.Eval(name, params, in)
		return nil, v, e
	}
	v, e := block.Eval(name, params, in)
	return nil, v, e
}

// valueFor returns the value for an input of a type that a register gives.
func valueFor(text string, n int64) api.Value {
	switch {
	case text == "multi" && n < 1:
		return api.Value{Kind: api.Multi, N: 1}
	case text == "multi" && n > 16:
		return api.Value{Kind: api.Multi, N: 16}
	case text == "multi":
		return api.Value{Kind: api.Multi, N: n}
	case text == "binary" && n == 0:
		return api.Value{Kind: api.Binary, N: 0}
	case text == "binary":
		return api.Value{Kind: api.Binary, N: 1}
	case text == "U" || text == "V" || text == "T" || strings.HasPrefix(text, "analog"):
		return api.Value{Kind: api.Analog, N: n}
	}
	panic(text)
}

// randomParams returns params of a block without an error.
func randomParams(source *rand.Rand, name string) []api.Param {
	d, _ := block.Find(name)
	for {
		var list []api.Param
		for _, b := range d.Params {
			if source.Intn(3) > 0 {
				list = append(list, api.Param{Name: b.Name, Value: b.Lo + source.Int63n(min(b.Hi-b.Lo, []int64{3, 60, 2 * api.MaxAnalog}[source.Intn(3)])+1)})
			}
		}
		if _, e := block.Params(name, list); e == api.OK {
			return list
		}
	}
}

// randomNumber returns a number, often one at an end.
func randomNumber(source *rand.Rand) int64 {
	list := ends()
	switch source.Intn(4) {
	case 0:
		return list[source.Intn(len(list))]
	case 1:
		return source.Int63n(20) - 2
	case 2:
		return source.Int63n(100000) - 30000
	}
	return source.Int63n(2)
}

// A call gives what the function of the block's layer gives, for any numbers of the registers, or its error.
func TestP27_2Calls(t *testing.T) {
	source := rand.New(rand.NewSource(272))
	for _, name := range block.Names() {
		d, _ := block.Find(name)
		errors, results := 0, 0
		for range 300 {
			ports, _ := block.Inputs(name, len(d.Inputs)+source.Intn(d.Most))
			list, dt := randomParams(source, name), []int{1, 7, 1 + source.Intn(api.DaySeconds), api.DaySeconds}[source.Intn(4)]
			values, _ := block.Params(name, list)
			first := source.Intn(3)
			state := make([]int64, first+d.State+source.Intn(3))
			for i := range state {
				if source.Intn(2) == 0 {
					state[i] = source.Int63n(3)
				}
			}
			// The inputs are in registers in another order, and the output takes the place of one of them.
			var in []api.Value
			var registers []int
			c := api.Code{Regs: 9, Inputs: len(ports), Outputs: 1, States: len(state)}
			inputs := make([]int64, len(ports))
			for i, r := range source.Perm(9)[:len(ports)] {
				inputs[i] = randomNumber(source)
				registers = append(registers, r)
				c.Instrs = append(c.Instrs, api.Instr{Op: machine.OpIn, A: r, N: int64(i)})
				in = append(in, valueFor(ports[i].Type, inputs[i]))
			}
			c.Calls = []api.Call{call(name, first, list, registers[0], registers...)}
			c.Instrs = append(c.Instrs, api.Instr{Op: machine.OpCall}, api.Instr{Op: machine.OpOut, B: registers[0]})
			next, output, f := evaluate(name, values, state[first:first+d.State], in, dt)
			outputs, after, e := machine.Run(c, state, inputs, dt)
			if f != api.OK {
				errors++
				if e != f || len(outputs)+len(after) > 0 {
					t.Fatalf("%s of %v with the state %v: %v, %v, %d, not %d", name, in, state, outputs, after, e, f)
				}
				continue
			}
			results++
			want := slices.Concat(state[:first], next, state[first+d.State:])
			if e != api.OK || !slices.Equal(outputs, []int64{output.N}) || !slices.Equal(after, want) {
				t.Fatalf("%s of %v with the state %v: %v, %v, %d, not %v, %v", name, in, state, outputs, after, e, output, want)
			}
		}
		if results < 50 || d.State > 0 && name != "edge" && errors == 0 {
			t.Errorf("%s: %d results and %d errors", name, results, errors)
		}
	}
}

// A state of a call that was changed is what the next call finds, and what is got then.
func TestP27_2CallTwice(t *testing.T) {
	c := built([4]int{2, 1, 3, 3}, "in r0 0; get r1 2; out 0 r1; call 0; out 1 r1; const r0 0; call 0; const r0 1; call 0; get r1 2; out 2 r1", call("count", 1, nil, 1, 0, 0))
	c.Calls[0].In[1] = 1
	// The reset is what the call gave before: 1 behind the first one, because register 1 is not 0 then.
	checkRun(t, c, []int64{9, 0, 0}, []int64{1}, 1, []int64{0, 1000, 1}, []int64{9, 1, 1})
	checkRun(t, c, []int64{9, 0, 5}, []int64{0}, 1, []int64{5, 0, 1}, []int64{9, 1, 1})
	checkRun(t, c, []int64{9, 1, 0}, []int64{1}, 1, []int64{0, 0, 1}, []int64{9, 1, 1})
}

// The time of a run is that of its calls.
func TestP27_2Time(t *testing.T) {
	c := built([4]int{2, 0, 1, 1}, "const r0 1; call 0; out 0 r1", call("offdelay", 0, params("time", 5), 1, 0))
	c.Instrs[0].N = 0
	for dt, want := range map[int][2]int64{1: {1, 2}, 4: {1, 5}, 5: {0, 0}, api.DaySeconds: {0, 0}} {
		checkRun(t, c, []int64{1}, nil, dt, want[:1], want[1:])
	}
}

func TestP27_2RunErrors(t *testing.T) {
	c := sample()
	// Both have a call of stage, which refuses numbers that are too great and states that are not possible.
	bad := built([4]int{2, 2, 1, 2}, "in r0 0; in r1 1; call 0; out 0 r1", call("stage", 0, nil, 1, 0))
	two := built([4]int{2, 2, 1, 4}, "in r0 0; in r1 1; branch r1 5; call 1; out 0 r1; call 0; call 1", call("stage", 0, nil, 1, 0), call("latch", 3, nil, 1, 0, 1))
	zeros := make([]int64, 5)
	for i, x := range []struct {
		c             api.Code
		state, inputs []int64
		dt            int
		want          api.Errno
	}{
		{c, zeros, []int64{0, 0}, 1, api.OK}, {c, zeros, []int64{0, 0}, api.DaySeconds, api.OK},
		{c, zeros[:4], []int64{0, 0}, 1, api.ErrInvalid}, {c, make([]int64, 6), []int64{0, 0}, 1, api.ErrInvalid}, {c, nil, []int64{0, 0}, 1, api.ErrInvalid},
		{c, zeros, []int64{0}, 1, api.ErrInvalid}, {c, zeros, []int64{0, 0, 0}, 1, api.ErrInvalid}, {c, zeros, nil, 1, api.ErrInvalid},
		{c, zeros, []int64{0, 0}, 0, api.ErrInvalid}, {c, zeros, []int64{0, 0}, -1, api.ErrInvalid}, {c, zeros, []int64{0, 0}, api.DaySeconds + 1, api.ErrInvalid}, {c, zeros, []int64{0, 0}, math.MaxInt, api.ErrInvalid}, {c, zeros, []int64{0, 0}, math.MinInt, api.ErrInvalid},
		// Code without calls has a time, too.
		{half(), nil, []int64{0}, api.DaySeconds, api.OK}, {half(), nil, []int64{0}, api.DaySeconds + 1, api.ErrInvalid}, {half(), nil, []int64{0}, 0, api.ErrInvalid}, {api.Code{}, nil, nil, 0, api.ErrInvalid},
		{c, []int64{0, 0, 0, 7, 0}, []int64{0, 0}, 1, api.ErrInvalid}, {c, []int64{-1, 9, 9, 6, 0}, []int64{0, 0}, 1, api.OK},
		{bad, []int64{0, 0}, []int64{api.MaxAnalog, 0}, 1, api.OK}, {bad, []int64{0, 0}, []int64{api.MaxAnalog + 1, 0}, 1, api.ErrType}, {bad, []int64{2, 0}, []int64{0, 0}, 1, api.ErrState}, {bad, []int64{2, 0}, []int64{-api.MaxAnalog - 1, 0}, 1, api.ErrType},
		// The number of what is given comes before the errors of calls.
		{bad, []int64{2, 0}, []int64{0, 0}, 0, api.ErrInvalid}, {bad, []int64{2, 0}, []int64{api.MaxAnalog + 1}, 1, api.ErrInvalid},
		// The first call is the one that is carried out first, and one that is not carried out has no error.
		{two, []int64{2, 0, 0, 2}, []int64{0, 0}, 1, api.ErrState}, {two, []int64{2, 0, 0, 2}, []int64{0, 1}, 1, api.ErrInvalid}, {two, []int64{0, 0, 0, 2}, []int64{0, 0}, 1, api.ErrInvalid}, {two, []int64{2, 0, 0, 0}, []int64{0, 1}, 1, api.ErrState}, {two, []int64{0, 0, 0, 0}, []int64{0, 1}, 1, api.OK},
	} {
		outputs, next, e := machine.Run(x.c, x.state, x.inputs, x.dt)
		if e != x.want || e != api.OK && len(outputs)+len(next) > 0 {
			t.Errorf("%d: %v, %v, %d, not %d", i, outputs, next, e, x.want)
		}
	}
}

// Runs neither change nor keep what they are given, and results share no memory.
func TestP27_2Memory(t *testing.T) {
	c, state, inputs := sample(), []int64{0, 0, 0, 0, 7}, []int64{5000, 1}
	before := copied(c)
	outputs, next, _ := machine.Run(c, state, inputs, 1)
	for i := range outputs {
		outputs[i] = 99
	}
	for i := range next {
		next[i] = 98
	}
	if !reflect.DeepEqual(c, before) || !slices.Equal(state, []int64{0, 0, 0, 0, 7}) || !slices.Equal(inputs, []int64{5000, 1}) {
		t.Errorf("the arguments were changed: %v, %v, %v", c, state, inputs)
	}
	checkRun(t, c, state, inputs, 1, []int64{2500, 0}, []int64{0, 0, 0, 1, 2500})
	first, _ := machine.Start(c)
	first[0] = 5
	if second, _ := machine.Start(c); second[0] != 0 {
		t.Error("states at the beginning share memory")
	}
	list, _ := machine.Reach(c)
	list[0] = 9
	if again, _ := machine.Reach(c); again[0] != 0 {
		t.Error("lists of Reach share memory")
	}
}
