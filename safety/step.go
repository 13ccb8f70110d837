package safety

import (
	"slices"

	"plenum/api"
	"plenum/interlock"
	"plenum/minimum"
	"plenum/point"
)

// keptLevel is the level at which a point asks in its group if only its minimum time keeps it on.
const keptLevel = defaultLevel + 1

// The reasons for the value of a point.
const (
	ByRequest   = 1 // the requested value
	ByMinimum   = 2 // a minimum time keeps it
	ByInterlock = 3 // another output of its group wins
	ByWaiting   = 4 // it has won, but its group is not free yet
)

// Result is what a point does: what is requested, its value and the reason.
type Result struct {
	Request api.Request
	Value   api.Value
	Reason  int
}

// Step returns the state after a scan, and what each point does.
func Step(t Table, s State, requests []api.Request, now int) (State, []Result, api.Errno) {
	if e := checkStep(t, s, requests, now); e != api.OK {
		return State{}, nil, e
	}
	results := afterMinimum(t, s, requests, now)
	left := make([]int, len(t.Groups))
	find := finder(t.Points)
	for i, g := range t.Groups {
		left[i] = exclude(g, find, s, s.Left[i], results, now)
	}
	outputs := slices.Clone(s.Outputs)
	for i, r := range results {
		if r.Value != outputs[i].Value {
			outputs[i] = api.Driven{Value: r.Value, Changed: now}
		}
	}
	return State{Outputs: outputs, Left: left}, results, api.OK
}

// checkStep returns the first error of the arguments of Step.
func checkStep(t Table, s State, requests []api.Request, now int) api.Errno {
	if e := Check(t); e != api.OK {
		return e
	}
	switch {
	case !isInstant(now):
		return api.ErrRange
	case !isPossible(t, s) || len(requests) != len(t.Points):
		return api.ErrInvalid
	case isBehind(s, now):
		return api.ErrState
	}
	for i, p := range t.Points {
		if point.Commandable(p) && !isRequest(p, requests[i]) {
			return api.ErrRange
		}
	}
	return api.OK
}

// isRequest reports whether something can be requested of a point.
func isRequest(p api.Point, r api.Request) bool {
	return 1 <= r.Level && r.Level <= defaultLevel && point.Fits(p, r.Value)
}

// afterMinimum returns what each point would do if there were no groups.
func afterMinimum(t Table, s State, requests []api.Request, now int) []Result {
	results := make([]Result, len(t.Points))
	for i, p := range t.Points {
		if !point.Commandable(p) {
			continue
		}
		// There is no error: the state and the request have been checked.
		v, _ := minimum.Value(p, s.Outputs[i], requests[i], now)
		results[i] = Result{Request: requests[i], Value: v, Reason: ByMinimum}
		if v == requests[i].Value {
			results[i].Reason = ByRequest
		}
	}
	return results
}

// exclude puts off what the interlock of a group does not allow in results, and returns when the last one of the group went off.
func exclude(g api.Group, find func(name string) int, s State, left int, results []Result, now int) int {
	before := interlock.Start(left)
	asks := make([]api.Request, len(g.Points))
	for k, name := range g.Points {
		i := find(name)
		asks[k] = askOf(results[i])
		if s.Outputs[i].Value == on() {
			before.On = k
		}
	}
	// There are no errors: the group, its state and the levels have been checked.
	winner, _ := interlock.Winner(g, before, asks)
	after, _ := interlock.Step(g, before, asks, now)
	for k, name := range g.Points {
		if r := &results[find(name)]; r.Value == on() && k != after.On {
			r.Value = off()
			r.Reason = reasonOff(*r, k == winner)
		}
	}
	return after.Left
}

// askOf returns what a point asks of its group.
func askOf(r Result) api.Request {
	if r.Value == on() && r.Request.Value == off() {
		return api.Request{Level: keptLevel, Value: r.Value}
	}
	return api.Request{Level: r.Request.Level, Value: r.Value}
}

// reasonOff returns why a point is off that its group does not allow to be on.
func reasonOff(r Result, wins bool) int {
	switch {
	case r.Request.Value == off():
		return ByRequest
	case wins:
		return ByWaiting
	}
	return ByInterlock
}
