package sequencer

import (
	"plenum/api"
	"plenum/block"
)

// on is the number of a binary value that is on.
const on = 1

// sequence is a block of this layer at work.
type sequence struct {
	descriptor api.Descriptor
	params     []int64 // the caller's, and only read
	place      int64   // the number of stages that run, or the step
	time       int64   // how long the demand has been high or, as a negative number, low; or the time in the step
}

// begin returns a block at the beginning, or the first error.
func begin(name string, params []int64) (*sequence, api.Errno) {
	if name != stageName && name != stepsName {
		return nil, api.ErrUnknown
	}
	d, _ := block.Find(name)
	if len(params) != len(d.Params) {
		return nil, api.ErrInvalid
	}
	for i, b := range d.Params {
		if !isFrom(params[i], b.Lo, b.Hi) {
			return nil, api.ErrRange
		}
	}
	return &sequence{descriptor: d, params: params}, api.OK
}

// resume lets the block go on from a state.
func (q *sequence) resume(state []int64) api.Errno {
	if len(state) != q.descriptor.State || !isFrom(state[0], 0, q.last()) || !isFrom(state[1], q.leastTime(), api.MaxInstant) {
		return api.ErrState
	}
	q.place, q.time = state[0], state[1]
	return api.OK
}

// last returns the number of all stages, or the last step. In both blocks it is the first parameter.
func (q *sequence) last() int64 { return q.params[0] }

// leastTime returns the least time that a state can have.
func (q *sequence) leastTime() int64 {
	if q.descriptor.Name == stageName {
		return -api.MaxInstant
	}
	return 0
}

// numbersOf returns the numbers of as many values as the block has inputs, or false if they do not fit.
func (q *sequence) numbersOf(in []api.Value) ([]int64, bool) {
	var numbers []int64
	for i, v := range in {
		if !fits(v, q.descriptor.Inputs[i]) {
			return nil, false
		}
		numbers = append(numbers, v.N)
	}
	return numbers, true
}

// fits reports whether v is a value for an input of one of the blocks, which is binary or has any unit.
func fits(v api.Value, p api.Port) bool {
	if p.Type == "binary" {
		return v.Kind == api.Binary && isFrom(v.N, 0, on)
	}
	return v.Kind == api.Analog && isNumber(v.N)
}

// isFrom reports whether n is from lo to hi.
func isFrom(n, lo, hi int64) bool { return lo <= n && n <= hi }

// isNumber reports whether n is in the range of analog values.
func isNumber(n int64) bool { return isFrom(n, -api.MaxAnalog, api.MaxAnalog) }

// isTime reports whether so many seconds can lie between two evaluations.
func isTime(dt int) bool { return 1 <= dt && dt <= api.DaySeconds }
