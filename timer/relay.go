package timer

import (
	"slices"

	"plenum/api"
	"plenum/block"
)

// relay is a block of this layer at work.
type relay struct {
	descriptor api.Descriptor
	params     []int64
	state      []int64 // its own, which each step replaces
}

// begin returns a block at the beginning, or the first error.
func begin(name string, params []int64) (*relay, api.Errno) {
	if !slices.Contains(Names(), name) {
		return nil, api.ErrUnknown
	}
	d, _ := block.Find(name)
	if !areValid(d, params) {
		return nil, api.ErrInvalid
	}
	return &relay{d, params, make([]int64, d.State)}, api.OK
}

// areValid reports whether params are as many as a block has, in their ranges, and agree with each other.
func areValid(d api.Descriptor, params []int64) bool {
	if len(params) != len(d.Params) {
		return false
	}
	var list []api.Param
	for i, b := range d.Params {
		list = append(list, api.Param{Name: b.Name, Value: params[i]})
	}
	_, e := block.Params(d.Name, list)
	return e == api.OK
}

// resume returns a block that goes on from a state, or the first error.
func resume(name string, params, state []int64) (*relay, api.Errno) {
	r, e := begin(name, params)
	if e != api.OK {
		return nil, e
	}
	if !r.isPossible(state) {
		return nil, api.ErrInvalid
	}
	copy(r.state, state)
	return r, api.OK
}

// isPossible reports whether the block can have a state.
func (r *relay) isPossible(state []int64) bool {
	if len(state) != r.descriptor.State {
		return false
	}
	isFrom := func(i int, lo, hi int64) bool { return lo <= state[i] && state[i] <= hi }
	switch r.descriptor.Name {
	case "count":
		return isFrom(0, 0, 1) && isFrom(1, 0, MaxCount)
	case "minrun":
		return isFrom(0, 0, 1) && isFrom(1, 0, r.least(state[0]))
	case "offdelay":
		return isFrom(0, wasOn, r.params[0])
	case "ondelay":
		return isFrom(0, 0, r.params[0]+1)
	case "pulse":
		return isFrom(0, 0, 1) && isFrom(1, 0, r.params[0])
	}
	return isFrom(0, 0, 1)
}

// step makes a step of dt seconds and returns its output, or the first error.
func (r *relay) step(in []api.Value, dt int) (api.Value, api.Errno) {
	ports := r.descriptor.Inputs
	if dt < 1 || dt > api.DaySeconds || len(in) != len(ports) {
		return api.Value{}, api.ErrInvalid
	}
	var numbers []int64
	for i, v := range in {
		if !fits(v, kindOf(ports[i])) {
			return api.Value{}, api.ErrType
		}
		numbers = append(numbers, v.N)
	}
	return api.Value{Kind: kindOf(r.descriptor.Outputs[0]), N: r.evaluate(numbers, int64(dt))}, api.OK
}

// kindOf returns the kind of the values of a port of a block of this layer.
func kindOf(p api.Port) int {
	if p.Type == "binary" {
		return api.Binary
	}
	return api.Analog
}

// fits reports whether v is a value for an analog or a binary input. Any number of an analog one can be compared.
func fits(v api.Value, kind int) bool {
	return v.Kind == kind && (kind == api.Analog || v.N == 0 || v.N == on)
}
