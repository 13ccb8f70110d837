package safety

import (
	"slices"

	"plenum/api"
	"plenum/point"
)

// State is what is kept between scans: for each point its value and the instant of its last change, and for each group when the last one of it went off.
type State struct {
	Outputs []api.Driven
	Left    []int
}

// on and off return the values of binary points.
func on() api.Value  { return api.Value{Kind: api.Binary, N: 1} }
func off() api.Value { return api.Value{Kind: api.Binary} }

// isInstant reports whether a number is an instant.
func isInstant(at int) bool { return 0 <= at && at <= api.MaxInstant }

// Start returns the state in the first scan after a restart.
func Start(t Table, now int) (State, api.Errno) {
	if e := Check(t); e != api.OK {
		return State{}, e
	}
	if !isInstant(now) {
		return State{}, api.ErrRange
	}
	s := State{Outputs: make([]api.Driven, len(t.Points)), Left: make([]int, len(t.Groups))}
	for i, p := range t.Points {
		if point.Commandable(p) {
			s.Outputs[i] = api.Driven{Value: atRest(p), Changed: now}
		}
	}
	for i := range s.Left {
		s.Left[i] = now
	}
	return s, api.OK
}

// atRest returns the value of a point after a restart.
func atRest(p api.Point) api.Value {
	switch p.Kind {
	case api.Analog:
		return api.Value{Kind: api.Analog, N: p.Low}
	case api.Multi:
		return api.Value{Kind: api.Multi, N: 1}
	}
	return off()
}

// isPossible reports whether a state is one that a valid table can have.
func isPossible(t Table, s State) bool {
	if len(s.Outputs) != len(t.Points) || len(s.Left) != len(t.Groups) {
		return false
	}
	for i, p := range t.Points {
		if !isPossibleOutput(p, s.Outputs[i]) {
			return false
		}
	}
	isNoInstant := func(at int) bool { return !isInstant(at) }
	return !slices.ContainsFunc(s.Left, isNoInstant) && Exclusive(t, s)
}

// isPossibleOutput reports whether a state is one that a point can have.
func isPossibleOutput(p api.Point, o api.Driven) bool {
	if !point.Commandable(p) {
		return o == api.Driven{}
	}
	return point.Fits(p, o.Value) && isInstant(o.Changed)
}

// isBehind reports whether a state has an instant behind now.
func isBehind(s State, now int) bool {
	isLater := func(o api.Driven) bool { return o.Changed > now }
	return slices.ContainsFunc(s.Outputs, isLater) || slices.ContainsFunc(s.Left, func(at int) bool { return at > now })
}

// Exclusive reports whether at most one output of each group is on.
func Exclusive(t Table, s State) bool {
	find := finder(t.Points)
	isOnIn := func(name string) bool {
		i := find(name)
		return i >= 0 && i < len(s.Outputs) && s.Outputs[i].Value == on()
	}
	for _, g := range t.Groups {
		count := 0
		for _, name := range g.Points {
			if isOnIn(name) {
				count++
			}
		}
		if count > 1 {
			return false
		}
	}
	return true
}
