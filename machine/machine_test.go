package machine_test

import (
	"reflect"
	"slices"
	"strconv"
	"strings"
	"testing"

	"plenum/api"
	"plenum/codec"
	"plenum/machine"
)

// layout is the number of an operation, and its operands in the order of the text.
type layout struct {
	op       int
	operands string
}

// layouts returns the layouts of the operations by their words.
func layouts() map[string]layout {
	return map[string]layout{
		"const": {1, "AN"}, "move": {2, "AB"}, "in": {3, "AN"}, "out": {4, "NB"}, "get": {5, "AN"}, "put": {6, "NB"},
		"add": {7, "ABC"}, "sub": {8, "ABC"}, "mul": {9, "ABC"}, "div": {10, "ABC"}, "min": {11, "ABC"}, "max": {12, "ABC"}, "less": {13, "ABC"}, "equal": {14, "ABC"},
		"not": {15, "AB"}, "branch": {16, "BN"}, "jump": {17, "N"}, "call": {18, "N"},
	}
}

// instr reads an instruction: its word and its operands.
func instr(source string) api.Instr {
	words := strings.Fields(source)
	l := layouts()[words[0]]
	in := api.Instr{Op: l.op}
	for i, operand := range l.operands {
		n, err := strconv.ParseInt(strings.TrimPrefix(words[i+1], "r"), 10, 64)
		if err != nil {
			panic(source)
		}
		switch operand {
		case 'A':
			in.A = int(n)
		case 'B':
			in.B = int(n)
		case 'C':
			in.C = int(n)
		case 'N':
			in.N = n
		}
	}
	return in
}

// built reads code: its numbers of registers, inputs, outputs and states, and its instructions, with semicolons between them.
func built(sizes [4]int, source string, calls ...api.Call) api.Code {
	c := api.Code{Regs: sizes[0], Inputs: sizes[1], Outputs: sizes[2], States: sizes[3], Calls: calls}
	for _, line := range strings.Split(source, ";") {
		if strings.TrimSpace(line) != "" {
			c.Instrs = append(c.Instrs, instr(line))
		}
	}
	return c
}

// params makes params of names and values.
func params(list ...any) []api.Param {
	var out []api.Param
	for i := 0; i < len(list); i += 2 {
		out = append(out, api.Param{Name: list[i].(string), Value: int64(list[i+1].(int))})
	}
	return out
}

// call makes a call with one output.
func call(block string, state int, params []api.Param, out int, in ...int) api.Call {
	return api.Call{Block: block, Params: params, State: state, In: in, Out: []int{out}}
}

// half is the code of the first example, and chosen that of the second one.
func half() api.Code {
	return built([4]int{3, 1, 1, 0}, "in r0 0; const r1 500; mul r2 r0 r1; out 0 r2")
}
func chosen() api.Code {
	return built([4]int{2, 1, 1, 0}, "const r1 0; in r0 0; branch r0 4; const r1 7; out 0 r1")
}

// sample is code with operations of all kinds and calls with and without a state, of which the last one is not used.
func sample() api.Code {
	return built([4]int{6, 2, 2, 5}, "in r0 0; in r1 1; const r2 500; get r3 4; branch r1 7; mul r3 r0 r2; jump 8; call 0; call 1; out 0 r3; out 1 r4; put 4 r3; not r5 r4",
		call("limit", 5, params("high", 1000), 3, 0), call("ondelay", 3, params("time", 5), 4, 1), call("count", 1, nil, 5, 1, 4))
}

// copied returns code in new memory.
func copied(c api.Code) api.Code {
	c.Instrs, c.Calls = slices.Clone(c.Instrs), slices.Clone(c.Calls)
	for i, x := range c.Calls {
		c.Calls[i].Params, c.Calls[i].In, c.Calls[i].Out = slices.Clone(x.Params), slices.Clone(x.In), slices.Clone(x.Out)
	}
	return c
}

// isSame reports whether code is the same, where nil and empty lists are.
func isSame(a, b api.Code) bool { return encoded(a) == encoded(b) }

// encoded returns the encoding of any code.
func encoded(c api.Code) string {
	w := &codec.Writer{}
	numbers := func(list ...int) {
		for _, n := range list {
			w.Signed(int64(n))
		}
	}
	w.List(6)
	numbers(c.Regs, c.Inputs, c.Outputs, c.States)
	w.List(len(c.Instrs))
	for _, in := range c.Instrs {
		w.List(5)
		numbers(in.Op, in.A, in.B, in.C)
		w.Signed(in.N)
	}
	w.List(len(c.Calls))
	for _, x := range c.Calls {
		w.List(5)
		w.Text(x.Block)
		w.List(len(x.Params))
		for _, p := range x.Params {
			w.List(2)
			w.Text(p.Name)
			w.Signed(p.Value)
		}
		numbers(x.State)
		w.List(len(x.In))
		numbers(x.In...)
		w.List(len(x.Out))
		numbers(x.Out...)
	}
	return w.Data()
}

// functions are the functions with code other than Run. They return the error, and whether there are results that should not be there.
func functions() map[string]func(c api.Code) (api.Errno, bool) {
	return map[string]func(c api.Code) (api.Errno, bool){
		"Verify": func(c api.Code) (api.Errno, bool) { return machine.Verify(c), false },
		"Start": func(c api.Code) (api.Errno, bool) {
			state, e := machine.Start(c)
			return e, e != api.OK && len(state) > 0
		},
		"Steps": func(c api.Code) (api.Errno, bool) {
			n, e := machine.Steps(c)
			return e, e != api.OK && n != 0
		},
		"Reach": func(c api.Code) (api.Errno, bool) {
			list, e := machine.Reach(c)
			return e, e != api.OK && len(list) > 0
		},
		"Encode": func(c api.Code) (api.Errno, bool) {
			s, e := machine.Encode(c)
			return e, e != api.OK && s != ""
		},
		"Decode": func(c api.Code) (api.Errno, bool) {
			d, e := machine.Decode(encoded(c))
			return e, e != api.OK && !isSame(d, api.Code{}) || e == api.OK && !isSame(d, c)
		},
		"Text": func(c api.Code) (api.Errno, bool) {
			list, e := machine.Text(c)
			return e, e != api.OK && len(list) > 0
		},
	}
}

// check compares the errors of all functions for some code with that of Verify.
func check(t *testing.T, c api.Code, want api.Errno, place string) {
	t.Helper()
	before := copied(c)
	for name, f := range functions() {
		if e, isWrong := f(c); e != want || isWrong {
			t.Errorf("%s, %s: %d, not %d, or with wrong results: %v", place, name, e, want, isWrong)
		}
	}
	// Run has further errors.
	state, inputs := make([]int64, max(0, min(c.States, 1000))), make([]int64, max(0, min(c.Inputs, 1000)))
	outputs, next, e := machine.Run(c, state, inputs, 1)
	if e != want || want != api.OK && len(outputs)+len(next) > 0 {
		t.Errorf("%s, Run: %d, not %d, or with results: %v, %v", place, e, want, outputs, next)
	}
	if _, _, e := machine.Run(c, nil, []int64{1, 2, 3, 4, 5, 6, 7}, 0); want != api.OK && e != want {
		t.Errorf("%s, Run with other errors: %d, not %d", place, e, want)
	}
	if !reflect.DeepEqual(c, before) {
		t.Errorf("%s: the code was changed", place)
	}
}

func TestP27_1Examples(t *testing.T) {
	check(t, half(), api.OK, "the first example")
	check(t, chosen(), api.OK, "the second example")
	check(t, built([4]int{2, 1, 1, 0}, "in r0 0; branch r0 3; const r1 7; out 0 r1"), api.ErrState, "the refused example")
	check(t, sample(), api.OK, "the sample")
	for want, c := range map[int]api.Code{4: half(), 5: chosen(), 12: sample(), 0: {}} {
		if n, e := machine.Steps(c); n != want || e != api.OK {
			t.Errorf("Steps: %d, %d, not %d", n, e, want)
		}
	}
}

// checkWays tests what can be reached, and the longest way.
func checkWays(t *testing.T, source string, steps int, want ...int) {
	t.Helper()
	c := built([4]int{1, 0, 0, 0}, source)
	if list, e := machine.Reach(c); e != api.OK || !slices.Equal(list, want) {
		t.Errorf("Reach of %q: %v, %d, not %v", source, list, e, want)
	}
	if n, e := machine.Steps(c); e != api.OK || n != steps {
		t.Errorf("Steps of %q: %d, %d, not %d", source, n, e, steps)
	}
}

func TestP27_1Ways(t *testing.T) {
	checkWays(t, "", 0)
	checkWays(t, "jump 1", 1, 0)
	checkWays(t, "const r0 0; branch r0 2", 2, 0, 1)
	checkWays(t, "jump 3; const r0 0; not r0 r0", 1, 0)
	checkWays(t, "jump 2; const r0 0; const r0 0", 2, 0, 2)
	checkWays(t, "const r0 0; branch r0 3; jump 4; const r0 0", 3, 0, 1, 2, 3)
	checkWays(t, "const r0 0; branch r0 4; jump 5; const r0 0; const r0 0; const r0 0", 4, 0, 1, 2, 4, 5)
	// What is known of a register does not matter.
	checkWays(t, "const r0 1; branch r0 3; jump 5; const r0 0; const r0 0; const r0 0", 5, 0, 1, 2, 3, 4, 5)
	// From an instruction that cannot be reached nothing can be.
	checkWays(t, "jump 3; jump 2; const r0 0", 1, 0)
	checkWays(t, "jump 2; branch r0 2; const r0 0", 2, 0, 2)
}

// Code as large as possible is verified, with more ways than could be followed one by one.
func TestP27_1Largest(t *testing.T) {
	c := api.Code{Regs: machine.MaxRegs, Inputs: machine.MaxWires, Outputs: machine.MaxWires, States: machine.MaxWires}
	for r := range c.Regs {
		c.Instrs = append(c.Instrs, api.Instr{Op: machine.OpConst, A: r, N: int64(r)})
	}
	for i := range machine.MaxCalls {
		c.Calls = append(c.Calls, call("pid", 4*i, nil, i, 511, 510, 509))
		c.Instrs = append(c.Instrs, api.Instr{Op: machine.OpCall, N: int64(i)})
	}
	for len(c.Instrs) < machine.MaxInstrs {
		at := len(c.Instrs)
		c.Instrs = append(c.Instrs, api.Instr{Op: machine.OpBranch, B: at % c.Regs, N: int64(min(at+2, machine.MaxInstrs))})
	}
	check(t, c, api.OK, "the largest code")
	if n, e := machine.Steps(c); n != machine.MaxInstrs || e != api.OK {
		t.Errorf("Steps: %d, %d", n, e)
	}
	if list, e := machine.Reach(c); len(list) != machine.MaxInstrs || list[4095] != 4095 || e != api.OK {
		t.Errorf("Reach: %d instructions, %d", len(list), e)
	}
}

// A register has to be written on every way.
func TestP27_1Registers(t *testing.T) {
	limit := call("limit", 0, nil, 1, 0)
	for source, want := range map[string]api.Errno{
		"const r0 0; move r0 r0":               api.OK,
		"const r0 0; move r1 r0; add r1 r1 r0": api.OK,
		"move r0 r0":                           api.ErrState,
		"not r0 r1":                            api.ErrState,
		"out 0 r0":                             api.ErrState,
		"put 0 r511":                           api.ErrState,
		"branch r0 1":                          api.ErrState,
		"in r0 0; add r1 r0 r1":                api.ErrState,
		"in r0 0; add r1 r1 r0":                api.ErrState,
		"get r64 0; move r63 r64; less r1 r64 r0": api.ErrState,
		"call 0":                                 api.ErrState,
		"in r1 0; call 0":                        api.ErrState,
		"in r0 0; call 0; out 0 r1":              api.OK,
		"in r0 0; branch r0 3; call 0; out 0 r1": api.ErrState,
		// Written on both ways, or on one that ends before.
		"in r0 0; branch r0 4; const r1 0; jump 5; const r1 1; out 0 r1": api.OK,
		"in r0 0; branch r0 4; const r1 0; jump 5; const r2 1; out 0 r1": api.ErrState,
		"in r0 0; branch r0 4; const r2 0; jump 5; const r1 1; out 0 r1": api.ErrState,
		"in r0 0; branch r0 4; const r2 0; jump 6; const r1 1; out 0 r1": api.OK,
		"in r0 0; branch r0 2; const r1 1; out 0 r1":                     api.OK,
		"const r0 1; branch r0 3; const r1 1; out 0 r1":                  api.ErrState,
		"in r0 0; branch r0 4; const r1 1; branch r0 5; not r2 r0":       api.OK,
		"in r0 0; branch r0 4; const r1 1; branch r0 5; not r2 r1":       api.ErrState,
		// Where no way leads, nothing has to be written, and nothing is.
		"jump 2; out 0 r0; const r0 0":            api.OK,
		"jump 2; const r0 0; out 0 r0":            api.ErrState,
		"jump 3; const r0 0; out 0 r0":            api.OK,
		"jump 3; const r0 0; jump 4; const r1 0":  api.OK,
		"in r0 0; jump 3; move r1 r2; not r1 r0":  api.OK,
		"in r0 0; jump 4; branch r2 3; call 0":    api.OK,
		"in r1 0; jump 3; branch r0 3; out 0 r1":  api.OK,
		"jump 2; in r0 0; in r1 0; add r2 r0 r1":  api.ErrState,
		"const r511 1; branch r511 2; put 0 r511": api.OK,
	} {
		if e := machine.Verify(built([4]int{512, 1, 1, 1}, source, limit)); e != want {
			t.Errorf("%q: %d, not %d", source, e, want)
		}
	}
}
