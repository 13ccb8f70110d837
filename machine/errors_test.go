package machine_test

import (
	"math"
	"strconv"
	"testing"

	"plenum/api"
	"plenum/machine"
)

// wrong is a change of the sample with an error of Verify.
type wrong struct {
	e      api.Errno
	change func(c *api.Code)
}

// sizes returns changes of each of the four sizes to some numbers.
func sizes(e api.Errno, list ...int) []wrong {
	var out []wrong
	for _, n := range list {
		out = append(out,
			wrong{e, func(c *api.Code) { c.Regs = n }},
			wrong{e, func(c *api.Code) { c.Inputs = n }},
			wrong{e, func(c *api.Code) { c.Outputs = n }},
			wrong{e, func(c *api.Code) { c.States = n }},
		)
	}
	return out
}

// tooMany are the changes with the first error.
func tooMany() []wrong {
	return append(sizes(api.ErrTooMany, 513, math.MaxInt),
		wrong{api.ErrTooMany, func(c *api.Code) { c.Instrs = append(c.Instrs, make([]api.Instr, 4097-len(c.Instrs))...) }},
		wrong{api.ErrTooMany, func(c *api.Code) { c.Calls = append(c.Calls, make([]api.Call, 65-len(c.Calls))...) }},
		wrong{api.ErrTooMany, func(c *api.Code) { c.Inputs = 257 }}, wrong{api.ErrTooMany, func(c *api.Code) { c.Outputs = 257 }}, wrong{api.ErrTooMany, func(c *api.Code) { c.States = 257 }},
	)
}

// badBlock are the changes of a call with an error of block.Params or block.Inputs.
func badBlock(at int) []wrong {
	bad := func(e api.Errno, change func(x *api.Call)) wrong {
		return wrong{e, func(c *api.Code) { change(&c.Calls[at]) }}
	}
	given := func(e api.Errno, block string, list ...any) wrong {
		return bad(e, func(x *api.Call) { x.Block, x.Params = block, params(list...) })
	}
	return []wrong{
		given(api.ErrUnknown, ""), given(api.ErrUnknown, "Limit"), given(api.ErrUnknown, "none", "high", 5), given(api.ErrUnknown, "limit", "", 0), given(api.ErrUnknown, "limit", "high", 5, "top", 5), given(api.ErrUnknown, "not", "time", 5),
		given(api.ErrDuplicate, "limit", "high", 5, "high", 5), given(api.ErrRange, "ondelay", "time", -1), given(api.ErrRange, "ondelay", "time", api.DaySeconds+1), given(api.ErrConflict, "limit", "high", 5, "low", 6), given(api.ErrConflict, "hyst", "on", 0),
		bad(api.ErrInvalid, func(x *api.Call) { x.In = nil }), bad(api.ErrInvalid, func(x *api.Call) { x.In = append(x.In, 0, 0) }), bad(api.ErrInvalid, func(x *api.Call) { x.Block, x.Params, x.In = "and", nil, make([]int, 9) }),
		// Of a call with both errors that of the params comes first.
		bad(api.ErrRange, func(x *api.Call) { x.Block, x.Params, x.In = "ondelay", params("time", -1), nil }),
		bad(api.ErrUnknown, func(x *api.Call) { x.Block, x.In = "none", nil }),
	}
}

// missing are the changes with something that does not exist.
func missing() []wrong {
	var list []wrong
	bad := func(change func(c *api.Code)) { list = append(list, wrong{api.ErrInvalid, change}) }
	at := func(i int, source string) { bad(func(c *api.Code) { c.Instrs[i] = instr(source) }) }
	for _, op := range []int{0, -1, 19, math.MaxInt, math.MinInt} {
		bad(func(c *api.Code) { c.Instrs[12].Op = op })
	}
	for _, r := range []string{"r-1", "r6", "r" + strconv.Itoa(math.MaxInt), "r" + strconv.Itoa(math.MinInt)} {
		for _, source := range []string{"const " + r + " 5", "move " + r + " r0", "move r0 " + r, "in " + r + " 0", "out 0 " + r, "get " + r + " 0", "put 4 " + r, "branch " + r + " 13", "not " + r + " r0", "not r0 " + r} {
			at(12, source)
		}
		for _, word := range []string{"add", "sub", "mul", "div", "min", "max", "less", "equal"} {
			at(12, word+" "+r+" r0 r0")
			at(12, word+" r0 "+r+" r0")
			at(12, word+" r0 r0 "+r)
		}
	}
	for _, n := range []string{"-1", "5", strconv.Itoa(math.MaxInt), strconv.Itoa(math.MinInt)} {
		for _, source := range []string{"in r0 " + n, "out " + n + " r0", "get r0 " + n, "put " + n + " r0", "call " + n} {
			at(12, source)
		}
	}
	at(12, "in r0 2")
	at(12, "out 2 r0")
	at(12, "call 3")
	// Instructions that cannot be reached have to be right, too: here the jump passes over it.
	bad(func(c *api.Code) { c.Instrs[6], c.Instrs[7] = instr("jump 8"), instr("move r6 r0") })
	bad(func(c *api.Code) { c.Instrs[4], c.Instrs[5] = instr("jump 7"), instr("in r0 2") })
	for _, n := range []string{"0", "-1", "14", "12", strconv.Itoa(math.MaxInt), strconv.Itoa(math.MinInt)} {
		at(12, "jump "+n)
		at(12, "branch r0 "+n)
	}
	for _, source := range []string{"jump 4", "branch r1 4", "jump 3", "branch r1 3"} {
		at(4, source)
	}
	return append(list, missingForCalls()...)
}

// missingForCalls are the changes of calls, the one that is not used included, with something that does not exist.
func missingForCalls() []wrong {
	var list []wrong
	for i := range 3 {
		bad := func(change func(x *api.Call)) {
			list = append(list, wrong{api.ErrInvalid, func(c *api.Code) { change(&c.Calls[i]) }})
		}
		for _, r := range []int{-1, 6, math.MaxInt, math.MinInt} {
			bad(func(x *api.Call) { x.In[len(x.In)-1] = r })
			bad(func(x *api.Call) { x.Out[0] = r })
		}
		bad(func(x *api.Call) { x.Out = nil })
		bad(func(x *api.Call) { x.Out = []int{3, 4} })
		for _, state := range []int{-1, 6, math.MaxInt, math.MinInt} {
			bad(func(x *api.Call) { x.State = state })
		}
	}
	return append(list,
		wrong{api.ErrInvalid, func(c *api.Code) { c.Calls[1].State = 5 }},
		wrong{api.ErrInvalid, func(c *api.Code) { c.Calls[2].State = 4 }},
		wrong{api.ErrInvalid, func(c *api.Code) { c.States = 4 }},
		wrong{api.ErrInvalid, func(c *api.Code) { c.States = 0 }},
		wrong{api.ErrInvalid, func(c *api.Code) { c.Regs = 5 }},
		wrong{api.ErrInvalid, func(c *api.Code) { c.Inputs = 0 }},
		wrong{api.ErrInvalid, func(c *api.Code) { c.Outputs = 0 }},
		wrong{api.ErrInvalid, func(c *api.Code) { c.Calls = nil }},
	)
}

// verifyErrors are the changes with errors of Verify, in the order in which they are found. The changes of each list are found together.
func verifyErrors() [][]wrong {
	conflict := func(change func(c *api.Code)) wrong { return wrong{api.ErrConflict, change} }
	at := func(i int, source string) func(c *api.Code) { return func(c *api.Code) { c.Instrs[i] = instr(source) } }
	return [][]wrong{
		tooMany(),
		sizes(api.ErrInvalid, -1, math.MinInt),
		badBlock(0), badBlock(1), badBlock(2),
		missing(),
		{
			conflict(func(c *api.Code) { c.Calls[1].State = 1 }), conflict(func(c *api.Code) { c.Calls[1].State = 2 }), conflict(func(c *api.Code) { c.Calls[2].State = 2 }), conflict(func(c *api.Code) { c.Calls[2].State = 3 }), conflict(func(c *api.Code) { c.Calls[0] = call("edge", 1, nil, 3, 0) }),
			conflict(at(11, "put 3 r3")), conflict(at(11, "put 1 r3")), conflict(at(11, "put 2 r3")),
			// It cannot be reached.
			conflict(func(c *api.Code) { c.Instrs[4], c.Instrs[5] = instr("jump 7"), instr("put 2 r0") }),
		},
		{
			{api.ErrState, at(0, "const r2 0")}, {api.ErrState, at(1, "const r2 0")}, {api.ErrState, at(2, "const r1 0")}, {api.ErrState, at(0, "jump 1")},
			{api.ErrState, at(0, "move r0 r0")}, {api.ErrState, at(8, "const r5 0")}, {api.ErrState, func(c *api.Code) { c.Calls[0].In[0] = 5 }}, {api.ErrState, func(c *api.Code) { c.Calls[1].Out[0] = 5 }},
			{api.ErrState, func(c *api.Code) { c.Instrs[3], c.Instrs[5] = instr("const r1 0"), instr("mul r1 r0 r2") }},
		},
	}
}

// changed returns the sample with changes, and whether they can be made together: a change may presuppose what another one has removed.
func changed(changes ...func(c *api.Code)) (c api.Code, made bool) {
	defer func() { made = recover() == nil }()
	c = sample()
	for _, change := range changes {
		change(&c)
	}
	return
}

func TestP27_1Errors(t *testing.T) {
	for i, list := range verifyErrors() {
		for k, w := range list {
			c, made := changed(w.change)
			if !made {
				t.Fatalf("the change %d/%d cannot be made", i, k)
			}
			check(t, c, w.e, strconv.Itoa(i)+"/"+strconv.Itoa(k))
		}
	}
}

// An error that is found earlier comes first.
func TestP27_1FirstErrors(t *testing.T) {
	steps := verifyErrors()
	for i, list := range steps {
		for k, w := range list {
			for m, later := range steps[i+1:] {
				for n, x := range later {
					if c, made := changed(x.change, w.change); made && machine.Verify(c) != w.e {
						t.Fatalf("the changes %d/%d and %d/%d: %d, not %d", i, k, i+1+m, n, machine.Verify(c), w.e)
					}
				}
			}
		}
	}
}

// What is just right is not refused.
func TestP27_1Right(t *testing.T) {
	right := func(place string, change func(c *api.Code)) {
		c := sample()
		change(&c)
		check(t, c, api.OK, place)
	}
	right("a call without a state at the end of the states", func(c *api.Code) { c.Calls[0].State = 5 })
	right("calls without a state at the state of another one", func(c *api.Code) { c.Calls[0].State = 3 })
	right("a state at the end", func(c *api.Code) { c.Calls[1].State, c.Instrs[11] = 4, instr("put 3 r3") })
	right("a state that is got from a call", func(c *api.Code) { c.Instrs[3].N = 3 })
	right("a jump to the end", func(c *api.Code) { c.Instrs[12] = instr("jump 13") })
	right("a branch to the end", func(c *api.Code) { c.Instrs[4] = instr("branch r1 13") })
	right("one call in two places", func(c *api.Code) { c.Instrs[12] = instr("call 1") })
	right("a call of a block with eight inputs", func(c *api.Code) { c.Calls[2] = call("mean", 0, nil, 5, 0, 1, 2, 3, 4, 4, 4, 4) })
	right("params in any order", func(c *api.Code) { c.Calls[0].Params = params("low", 5, "high", 5) })
	right("no instructions", func(c *api.Code) { c.Instrs = nil })
	right("no calls", func(c *api.Code) { c.Calls, c.Instrs = nil, c.Instrs[:4] })
	right("more than is used", func(c *api.Code) { c.Regs, c.Inputs, c.Outputs, c.States = 512, 256, 256, 256 })
	check(t, api.Code{}, api.OK, "nothing")
}

// Fields that an operation does not mention do not matter.
func TestP27_1OtherFields(t *testing.T) {
	c := sample()
	for i, word := range []string{"const", "move", "in", "out", "get", "put", "add", "less", "not", "branch", "jump", "call"} {
		l := layouts()[word]
		in := api.Instr{Op: l.op, A: -7, B: 999, C: math.MaxInt, N: math.MinInt64}
		for _, operand := range l.operands {
			switch operand {
			case 'A':
				in.A = 5
			case 'B':
				in.B = 0
			case 'C':
				in.C = 1
			case 'N':
				in.N = map[string]int64{"branch": 13, "jump": 13, "put": 4}[word]
			}
		}
		c.Instrs[12] = in
		check(t, c, api.OK, "the instruction "+strconv.Itoa(i))
	}
}
