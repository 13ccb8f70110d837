package machine

import (
	"slices"

	"plenum/api"
	"plenum/block"
)

// verified is verified code, with what its runs need. The instructions that can be reached are marked, and so is the end, if it can be.
type verified struct {
	api.Code
	calls     []call
	isReached []bool
}

// call is a call with what its block says: the values of its parameters, its inputs, and the length of its state.
type call struct {
	api.Call
	params []int64
	ports  []api.Port
	size   int
}

// verify returns verified code, or the first error.
func verify(c api.Code) (verified, api.Errno) {
	if len(c.Instrs) > MaxInstrs || len(c.Calls) > MaxCalls || c.Regs > MaxRegs || max(c.Inputs, c.Outputs, c.States) > MaxWires {
		return verified{}, api.ErrTooMany
	}
	if min(c.Regs, c.Inputs, c.Outputs, c.States) < 0 {
		return verified{}, api.ErrInvalid
	}
	calls, e := callsOf(c)
	if e != api.OK {
		return verified{}, e
	}
	v := verified{Code: c, calls: calls}
	switch {
	case !v.hasAll():
		return verified{}, api.ErrInvalid
	case v.conflicts():
		return verified{}, api.ErrConflict
	case !v.trace():
		return verified{}, api.ErrState
	}
	return v, api.OK
}

// callsOf returns the calls of code, or the first error of one.
func callsOf(c api.Code) ([]call, api.Errno) {
	var calls []call
	for _, x := range c.Calls {
		params, e := block.Params(x.Block, x.Params)
		if e != api.OK {
			return nil, e
		}
		ports, e := block.Inputs(x.Block, len(x.In))
		if e != api.OK {
			return nil, e
		}
		d, _ := block.Find(x.Block)
		calls = append(calls, call{x, params, ports, d.State})
	}
	return calls, api.OK
}

// hasAll reports whether there is everything that the instructions and the calls use.
func (v *verified) hasAll() bool {
	for at := range v.Instrs {
		if !v.isInstruction(at) {
			return false
		}
	}
	return !slices.ContainsFunc(v.calls, func(x call) bool { return !v.isCall(x) })
}

// isInstruction reports whether there is everything that an instruction uses. A call looks after its registers itself.
func (v *verified) isInstruction(at int) bool {
	in := v.Instrs[at]
	if !isOperation(in.Op) {
		return false
	}
	reads, writes := operands(in)
	if !v.hasRegisters(reads) || !v.hasRegisters(writes) {
		return false
	}
	isBelow := func(count int) bool { return 0 <= in.N && in.N < int64(count) }
	switch in.Op {
	case OpIn:
		return isBelow(v.Inputs)
	case OpOut:
		return isBelow(v.Outputs)
	case OpGet, OpPut:
		return isBelow(v.States)
	case OpBranch, OpJump:
		return int64(at) < in.N && in.N <= int64(len(v.Instrs))
	case OpCall:
		return isBelow(len(v.calls))
	}
	return true
}

// hasRegisters reports whether there are all registers of a list.
func (v *verified) hasRegisters(list []int) bool {
	return !slices.ContainsFunc(list, func(r int) bool { return r < 0 || r >= v.Regs })
}

// isCall reports whether there is everything that a call uses, and it has one output.
func (v *verified) isCall(x call) bool {
	return v.hasRegisters(x.In) && v.hasRegisters(x.Out) && len(x.Out) == 1 && 0 <= x.State && x.State <= v.States-x.size
}

// conflicts reports whether the states of two calls overlap, or an instruction changes the state of a call.
func (v *verified) conflicts() bool {
	isOwned := make([]bool, v.States)
	for _, x := range v.calls {
		for i := range x.size {
			if isOwned[x.State+i] {
				return true
			}
			isOwned[x.State+i] = true
		}
	}
	return slices.ContainsFunc(v.Instrs, func(in api.Instr) bool { return in.Op == OpPut && isOwned[in.N] })
}
