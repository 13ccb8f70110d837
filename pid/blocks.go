package pid

import (
	"plenum/api"
	"plenum/fixed"
)

// law is a block: how many numbers it has, and what it does.
type law struct {
	params, state int
	inputs        []int // their kinds
	isValid       func(params, state []int64) bool
	scan          func(params, state, in []int64, dt int) ([]int64, int64)
}

// laws returns the blocks of this layer.
func laws() map[string]law {
	return map[string]law{
		"pid":  {5, 3, []int{api.Analog, api.Analog, api.Binary}, isController, controllerScan},
		"rate": {2, 2, []int{api.Analog}, isRate, rateScan},
	}
}

// Step returns the state and the output of one of the blocks after a scan of dt seconds.
func Step(block string, params, state []int64, in []api.Value, dt int) ([]int64, api.Value, api.Errno) {
	l, known := laws()[block]
	if !known {
		return nil, api.Value{}, api.ErrUnknown
	}
	if len(params) != l.params || len(state) != l.state || !l.isValid(params, state) || !isTime(dt) {
		return nil, api.Value{}, api.ErrInvalid
	}
	numbers, fit := numbersOf(l.inputs, in)
	if !fit {
		return nil, api.Value{}, api.ErrType
	}
	next, output := l.scan(params, state, numbers, dt)
	return next, api.Value{Kind: api.Analog, N: output}, api.OK
}

// numbersOf returns the numbers of values for inputs of some kinds, or false if they do not fit.
func numbersOf(kinds []int, in []api.Value) ([]int64, bool) {
	if len(in) != len(kinds) {
		return nil, false
	}
	var numbers []int64
	for i, v := range in {
		if v.Kind != kinds[i] || v.Kind == api.Binary && !isBit(v.N) {
			return nil, false
		}
		numbers = append(numbers, v.N)
	}
	return numbers, true
}

// isBit reports whether n is the number of a binary value.
func isBit(n int64) bool { return n == 0 || n == 1 }

// settingsOf returns the settings that the params of the block pid are.
func settingsOf(params []int64) Settings {
	return Settings{Kp: params[0], Ti: params[1], Low: params[2], High: params[3], Reverse: params[4] == 1}
}

// stateOf returns the state of a controller that the state of the block pid is.
func stateOf(state []int64) State {
	return State{Ready: state[0] == 1, Sum: state[1], Rest: state[2]}
}

// isController reports whether params and a state are those of the block pid.
func isController(params, state []int64) bool {
	return isBit(params[4]) && Check(settingsOf(params)) == api.OK && isBit(state[0]) && isPossible(stateOf(state))
}

// controllerScan is a scan of the block pid.
func controllerScan(params, state, in []int64, dt int) ([]int64, int64) {
	s := settingsOf(params)
	set, now, enable := in[0], in[1], in[2]
	if enable == 0 {
		return []int64{0, 0, 0}, s.Low
	}
	x, output, _ := Control(s, stateOf(state), set, now, dt)
	return []int64{1, x.Sum, x.Rest}, output
}

// isRate reports whether params and a state are those of the block rate.
func isRate(params, state []int64) bool {
	ready, last := state[0], state[1]
	return areRates(params[0], params[1]) && (ready == 1 && isNumber(last) || ready == 0 && last == 0)
}

// rateScan is a scan of the block rate.
func rateScan(params, state, in []int64, dt int) ([]int64, int64) {
	output := fixed.Clamp(in[0])
	if ready, last := state[0], state[1]; ready == 1 {
		output, _ = Limit(last, output, params[0], params[1], dt)
	}
	return []int64{1, output}, output
}
