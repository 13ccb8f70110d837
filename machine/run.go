package machine

import (
	"slices"
	"strings"

	"plenum/api"
	"plenum/block"
	"plenum/fixed"
	"plenum/pid"
	"plenum/psychro"
	"plenum/sequencer"
	"plenum/timer"
)

// run is a run of verified code. Its outputs and its state are its own memory.
type run struct {
	verified
	operations                        map[int]func(a, b int64) int64
	registers, inputs, outputs, state []int64
	dt                                int
}

// newRun returns a run before its first instruction.
func newRun(v verified, state, inputs []int64, dt int) *run {
	return &run{
		verified:   v,
		operations: operations(),
		registers:  make([]int64, v.Regs),
		inputs:     inputs,
		outputs:    make([]int64, v.Outputs),
		state:      slices.Clone(state),
		dt:         dt,
	}
}

// operations returns the operations on two registers.
func operations() map[int]func(a, b int64) int64 {
	return map[int]func(a, b int64) int64{
		OpAdd:   fixed.Add,
		OpSub:   fixed.Sub,
		OpMul:   fixed.Mul,
		OpDiv:   fixed.Div,
		OpMin:   func(a, b int64) int64 { return min(a, b) },
		OpMax:   func(a, b int64) int64 { return max(a, b) },
		OpLess:  func(a, b int64) int64 { return bit(a < b) },
		OpEqual: func(a, b int64) int64 { return bit(a == b) },
	}
}

// bit returns the number of what is true or not.
func bit(isTrue bool) int64 {
	if isTrue {
		return 1
	}
	return 0
}

// toEnd carries out instructions up to the end, or to the first error. Each one is followed by one with a greater index.
func (r *run) toEnd() api.Errno {
	for at := 0; at < len(r.Instrs); {
		next, e := r.execute(at)
		if e != api.OK {
			return e
		}
		at = next
	}
	return api.OK
}

// execute carries out an instruction and returns the next one.
func (r *run) execute(at int) (int, api.Errno) {
	in := r.Instrs[at]
	switch in.Op {
	case OpConst:
		r.registers[in.A] = in.N
	case OpMove:
		r.registers[in.A] = r.registers[in.B]
	case OpIn:
		r.registers[in.A] = r.inputs[in.N]
	case OpOut:
		r.outputs[in.N] = r.registers[in.B]
	case OpGet:
		r.registers[in.A] = r.state[in.N]
	case OpPut:
		r.state[in.N] = r.registers[in.B]
	case OpNot:
		r.registers[in.A] = bit(r.registers[in.B] == 0)
	case OpBranch:
		if r.registers[in.B] == 0 {
			return int(in.N), api.OK
		}
	case OpJump:
		return int(in.N), api.OK
	case OpCall:
		if e := r.call(r.calls[in.N]); e != api.OK {
			return 0, e
		}
	default:
		r.registers[in.A] = r.operations[in.Op](r.registers[in.B], r.registers[in.C])
	}
	return at + 1, api.OK
}

// call carries out a call.
func (r *run) call(x call) api.Errno {
	var in []api.Value
	for i, port := range x.ports {
		in = append(in, valueFor(port, r.registers[x.In[i]]))
	}
	state := r.state[x.State : x.State+x.size]
	next, output, e := x.evaluate(state, in, r.dt)
	if e != api.OK {
		return e
	}
	copy(state, next)
	r.registers[x.Out[0]] = output.N
	return api.OK
}

// valueFor returns the value for an input of a block that a register gives. Inputs of any kind take it as an analog one, because they only hand it on.
func valueFor(port api.Port, n int64) api.Value {
	switch kind, _, _ := strings.Cut(port.Type, " "); kind {
	case "binary":
		return api.Value{Kind: api.Binary, N: bit(n != 0)}
	case "multi":
		return api.Value{Kind: api.Multi, N: min(max(n, 1), api.MaxStates)}
	}
	return api.Value{Kind: api.Analog, N: n}
}

// evaluator returns the new state and the output of a block of some layer.
type evaluator func(name string, params, state []int64, in []api.Value, dt int) ([]int64, api.Value, api.Errno)

// stateless returns the evaluator of blocks without a state.
func stateless(eval func(name string, params []int64, in []api.Value) (api.Value, api.Errno)) evaluator {
	return func(name string, params, _ []int64, in []api.Value, _ int) ([]int64, api.Value, api.Errno) {
		output, e := eval(name, params, in)
		return nil, output, e
	}
}

// evaluate returns the new state and the output of the block of a call. It asks one layer after the other, until one knows the block.
func (x call) evaluate(state []int64, in []api.Value, dt int) ([]int64, api.Value, api.Errno) {
	for _, evaluate := range []evaluator{stateless(block.Eval), timer.Step, pid.Step, sequencer.Step} {
		next, output, e := evaluate(x.Block, x.params, state, in, dt)
		if e != api.ErrUnknown {
			return next, output, e
		}
	}
	return stateless(psychro.Eval)(x.Block, x.params, state, in, dt)
}
