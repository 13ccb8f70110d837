package ranges

import (
	"slices"

	"plenum/api"
	"plenum/block"
)

// box is a block with its parameters, as many inputs as are connected, and its rule.
type box struct {
	descriptor api.Descriptor
	params     []int64
	inputs     []api.Port
	rule       rule
}

// newBox returns a box with so many inputs, or the first error.
func newBox(name string, params []api.Param, connected int) (box, api.Errno) {
	values, e := block.Params(name, params)
	if e != api.OK {
		return box{}, e
	}
	inputs, e := block.Inputs(name, connected)
	if e != api.OK {
		return box{}, e
	}
	d, _ := block.Find(name)
	return box{d, values, inputs, rules()[name]}, api.OK
}

// param returns the value of a parameter that the block has.
func (b box) param(name string) int64 {
	return b.params[slices.IndexFunc(b.descriptor.Params, func(x api.Bound) bool { return x.Name == name })]
}

// output returns the greatest range of the output.
func (b box) output() api.Span { return widest(b.descriptor.Outputs[0].Type) }

// over returns the range of the block for ranges of its inputs.
func (b box) over(inputs []api.Span) api.Span {
	var in []api.Span
	for i, s := range inputs {
		in = append(in, limited(s, widest(b.inputs[i].Type)))
	}
	return b.rule(b, in)
}

// at returns the output of the block for numbers of its inputs.
func (b box) at(eval evaluator, numbers []int64) int64 {
	var in []api.Value
	for i, n := range numbers {
		kind := api.Analog
		if b.inputs[i].Type == "binary" {
			kind = api.Binary
		}
		in = append(in, api.Value{Kind: kind, N: n})
	}
	output, _ := eval(b.descriptor.Name, b.params, in)
	return output.N
}
