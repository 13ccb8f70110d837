package compile

import (
	"slices"

	"plenum/api"
	"plenum/fixed"
	"plenum/lexer"
	"plenum/links"
	"plenum/machine"
)

// checkPorts returns the first error of a unit for which its code does not count.
func checkPorts(u Unit) api.Errno {
	ports := slices.Concat(u.Inputs, u.Outputs)
	hasNoName := func(p Port) bool { return !lexer.Name(p.Point) }
	isNoInput := func(p Port) bool { return p.Level != 0 }
	isNoOutput := func(p Port) bool { return p.Level < 1 || p.Level > api.Levels }
	hasNoKind := func(p Port) bool { return p.Kind != api.Analog && p.Kind != api.Binary && p.Kind != api.Multi }
	switch {
	case !lexer.Name(u.Name) || slices.ContainsFunc(ports, hasNoName):
		return api.ErrName
	case u.Period < 1 || u.Period > api.DaySeconds || slices.ContainsFunc(u.Inputs, isNoInput) || slices.ContainsFunc(u.Outputs, isNoOutput):
		return api.ErrRange
	case slices.ContainsFunc(ports, hasNoKind):
		return api.ErrType
	}
	return api.OK
}

// checkSizes returns the first error of a unit whose ports and whose code have none by themselves.
func checkSizes(u Unit) api.Errno {
	if len(u.Initial) != u.Code.States || len(u.Inputs) != u.Code.Inputs || len(u.Outputs) != u.Code.Outputs {
		return api.ErrInvalid
	}
	for i := 1; i < len(u.Inputs); i++ {
		if u.Inputs[i-1].Point >= u.Inputs[i].Point {
			return api.ErrDuplicate
		}
	}
	driven := map[string]bool{}
	for _, p := range u.Outputs {
		driven[p.Point] = true
	}
	if len(driven) < len(u.Outputs) {
		return api.ErrDuplicate
	}
	return api.OK
}

// scan runs a valid unit for one scan.
func (u Unit) scan(state []int64, inputs []api.Value, dt int) ([]api.Value, []int64, api.Errno) {
	if len(state) != u.Code.States || len(inputs) != len(u.Inputs) || dt < 1 || dt > api.DaySeconds {
		return nil, nil, api.ErrInvalid
	}
	var numbers []int64
	for i, v := range inputs {
		if v.Kind != u.Inputs[i].Kind || !links.IsConstant(v) {
			return nil, nil, api.ErrType
		}
		numbers = append(numbers, v.N)
	}
	results, next, e := machine.Run(u.Code, state, numbers, dt)
	if e != api.OK {
		return nil, nil, e
	}
	var outputs []api.Value
	for i, n := range results {
		outputs = append(outputs, valueOf(u.Outputs[i].Kind, n))
	}
	return outputs, next, api.OK
}

// valueOf returns the value of a kind that an output of the machine becomes.
func valueOf(kind int, n int64) api.Value {
	switch kind {
	case api.Binary:
		if n != 0 {
			n = 1
		}
	case api.Multi:
		n = min(max(n, 1), api.MaxStates)
	default:
		n = fixed.Clamp(n)
	}
	return api.Value{Kind: kind, N: n}
}

// Equal reports whether two units are equal.
func Equal(a, b Unit) bool {
	return a.Name == b.Name && a.Period == b.Period && isSameCode(a.Code, b.Code) && slices.Equal(a.Initial, b.Initial) && slices.Equal(a.Inputs, b.Inputs) && slices.Equal(a.Outputs, b.Outputs)
}

// isSameCode reports whether code is the same.
func isSameCode(a, b api.Code) bool {
	isSameCall := func(a, b api.Call) bool {
		return a.Block == b.Block && slices.Equal(a.Params, b.Params) && a.State == b.State && slices.Equal(a.In, b.In) && slices.Equal(a.Out, b.Out)
	}
	sizes := func(c api.Code) [4]int { return [4]int{c.Regs, c.Inputs, c.Outputs, c.States} }
	return sizes(a) == sizes(b) && slices.Equal(a.Instrs, b.Instrs) && slices.EqualFunc(a.Calls, b.Calls, isSameCall)
}
