package minimum

import "plenum/api"

// isOf reports whether a value is one of a point.
func isOf(p api.Point, v api.Value) bool {
	return v.Kind == p.Kind && (v.Kind != api.Binary || v.N == 0 || v.N == on)
}

// checkRequest returns the first error of a request to an output in a state.
func checkRequest(p api.Point, o api.Driven, r api.Request, now int) api.Errno {
	switch {
	case !isOf(p, o.Value) || !isOf(p, r.Value):
		return api.ErrType
	case r.Level < 1 || r.Level > defaultLevel:
		return api.ErrRange
	case now < o.Changed:
		return api.ErrState
	}
	return api.OK
}

// Value returns the value that a request and the minimum times give an output.
func Value(p api.Point, o api.Driven, r api.Request, now int) (api.Value, api.Errno) {
	if e := checkRequest(p, o, r, now); e != api.OK {
		return api.Value{}, e
	}
	if r.Level > lastUrgent && Held(p, o, now) {
		return o.Value, api.OK
	}
	return r.Value, api.OK
}

// Next returns the output after a request.
func Next(p api.Point, o api.Driven, r api.Request, now int) (api.Driven, api.Errno) {
	v, e := Value(p, o, r, now)
	if e != api.OK {
		return api.Driven{}, e
	}
	if v != o.Value {
		o = api.Driven{Value: v, Changed: now}
	}
	return o, api.OK
}

// Replay returns the outputs behind each of several requests.
func Replay(p api.Point, o api.Driven, list []Ask) ([]api.Driven, api.Errno) {
	var states []api.Driven
	for _, ask := range list {
		next, e := Next(p, o, ask.Request, ask.At)
		if e != api.OK {
			return nil, e
		}
		o = next
		states = append(states, o)
	}
	return states, api.OK
}
