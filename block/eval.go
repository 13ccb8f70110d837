package block

import (
	"cmp"
	"slices"

	"plenum/api"
	"plenum/fixed"
)

// operations returns the blocks of this layer that compute a number, as functions of their params and of the numbers of their inputs, which are clamped.
func operations() map[string]func(params, in []int64) int64 {
	return map[string]func(params, in []int64) int64{
		"above": func(_, in []int64) int64 { return bit(in[0] > in[1]) },
		"abs":   func(_, in []int64) int64 { return max(in[0], -in[0]) },
		"add":   func(_, in []int64) int64 { return fixed.Add(in[0], in[1]) },
		"and":   func(_, in []int64) int64 { return slices.Min(in) },
		"below": func(_, in []int64) int64 { return bit(in[0] < in[1]) },
		"div":   func(_, in []int64) int64 { return fixed.Div(in[0], in[1]) },
		"limit": func(params, in []int64) int64 { return min(max(in[0], params[0]), params[1]) },
		"line":  func(params, in []int64) int64 { return fixed.Line(in[0], params[0], params[1], params[2], params[3]) },
		"max":   func(_, in []int64) int64 { return slices.Max(in) },
		"mean":  func(_, in []int64) int64 { return fixed.Mean(in) },
		"min":   func(_, in []int64) int64 { return slices.Min(in) },
		"mul":   func(_, in []int64) int64 { return fixed.Mul(in[0], in[1]) },
		"neg":   func(_, in []int64) int64 { return -in[0] },
		"not":   func(_, in []int64) int64 { return 1 - in[0] },
		"or":    func(_, in []int64) int64 { return slices.Max(in) },
		"sub":   func(_, in []int64) int64 { return fixed.Sub(in[0], in[1]) },
		"xor":   func(_, in []int64) int64 { return in[0] ^ in[1] },
	}
}

// bit returns the number of a binary value.
func bit(on bool) int64 {
	if on {
		return 1
	}
	return 0
}

// selections returns the blocks of this layer whose output is one of their inputs, as functions that tell its index from the number of the first input and from the index of the last one.
func selections() map[string]func(first int64, last int) int {
	return map[string]func(first int64, last int) int{
		"choose": func(state int64, last int) int { return min(int(state), last) },
		"pick":   func(on int64, last int) int { return last - int(on) },
	}
}

// Eval returns the output of a block without a state.
func Eval(name string, params []int64, in []api.Value) (api.Value, api.Errno) {
	operate, computes := operations()[name]
	choose, selects := selections()[name]
	if !computes && !selects {
		return api.Value{}, api.ErrUnknown
	}
	d, _ := Find(name)
	if !areAllowed(d, params) || !agree(name, params) {
		return api.Value{}, api.ErrInvalid
	}
	ports, e := inputs(d, len(in))
	if e != api.OK {
		return api.Value{}, e
	}
	if !fit(ports, in) {
		return api.Value{}, api.ErrType
	}
	if selects {
		return in[choose(in[0].N, len(in)-1)], api.OK
	}
	var numbers []int64
	for _, v := range in {
		numbers = append(numbers, fixed.Clamp(v.N))
	}
	return api.Value{Kind: kindOf(d.Outputs[0].Type), N: operate(params, numbers)}, api.OK
}

// anyKind is the type of ports that take values of every kind.
const anyKind = "T"

// kindOf returns the kind of the values of a port with a type other than anyKind.
func kindOf(text string) int {
	switch text {
	case "binary":
		return api.Binary
	case "multi":
		return api.Multi
	}
	return api.Analog
}

// fit reports whether values fit as many inputs.
func fit(ports []api.Port, in []api.Value) bool {
	common := api.Null // the kind of the values for inputs of every kind, once there is one
	for i, port := range ports {
		kind := kindOf(port.Type)
		if port.Type == anyKind {
			common = cmp.Or(common, in[i].Kind)
			kind = common
		}
		if in[i].Kind != kind || !isPossible(in[i]) {
			return false
		}
	}
	return true
}

// isPossible reports whether v is a value with a number that its kind can have. Analog ones can have any, because they are clamped.
func isPossible(v api.Value) bool {
	switch v.Kind {
	case api.Analog:
		return true
	case api.Binary:
		return v.N == 0 || v.N == 1
	case api.Multi:
		return 1 <= v.N && v.N <= api.MaxStates
	}
	return false
}
