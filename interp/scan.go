package interp

import (
	"plenum/api"
	"plenum/block"
	"plenum/pid"
	"plenum/psychro"
	"plenum/sequencer"
	"plenum/timer"
)

// evaluator returns the new state and the output of a block, dt seconds behind the scan before.
type evaluator func(name string, params, state []int64, in []api.Value, dt int) ([]int64, api.Value, api.Errno)

// stateless returns the evaluator of blocks without a state.
func stateless(eval func(name string, params []int64, in []api.Value) (api.Value, api.Errno)) evaluator {
	return func(name string, params, _ []int64, in []api.Value, _ int) ([]int64, api.Value, api.Errno) {
		output, e := eval(name, params, in)
		return nil, output, e
	}
}

// evaluators returns the evaluators of all blocks by their names.
func evaluators() map[string]evaluator {
	all := map[string]evaluator{}
	for _, name := range block.Names() {
		all[name] = stateless(block.Eval)
	}
	for _, name := range timer.Names() {
		all[name] = timer.Step
	}
	for _, name := range []string{"pid", "rate"} {
		all[name] = pid.Step
	}
	for _, name := range []string{"stage", "steps"} {
		all[name] = sequencer.Step
	}
	for _, name := range []string{"dewpoint", "enthalpy"} {
		all[name] = stateless(psychro.Eval)
	}
	return all
}

// scan evaluates the program once, or returns the first error.
func (r *runner) scan(m Memory, inputs []api.Setting, dt int) (Memory, Result, api.Errno) {
	if !isTime(dt) || !r.canHave(m) {
		return Memory{}, Result{}, api.ErrInvalid
	}
	points, e := r.pointsOf(inputs)
	if e != api.OK {
		return Memory{}, Result{}, e
	}
	return r.evaluate(m, points, dt)
}

// evaluate evaluates the program once with a memory and values of points that it can have.
func (r *runner) evaluate(m Memory, points map[string]api.Value, dt int) (Memory, Result, api.Errno) {
	wires := map[string]api.Value{}
	present := func(l api.Link) api.Value {
		switch {
		case l.Node != "":
			return wires[l.Node]
		case l.Point != "":
			return points[l.Point]
		}
		return l.Const
	}
	// values returns the values of links, of which the delayed ones have those in the memory from a place on.
	values := func(list []api.Link, place int) []api.Value {
		var in []api.Value
		for _, l := range list {
			if !l.Delayed {
				in = append(in, present(l))
				continue
			}
			in = append(in, m.Links[place])
			place++
		}
		return in
	}
	next := Memory{States: make([][]int64, len(r.nodes))}
	result := Result{Wires: make([][]api.Value, len(r.nodes))}
	for _, i := range r.order {
		n := r.nodes[i]
		state, output, e := n.evaluate(n.Block, n.params, m.States[i], values(n.Inputs, n.held), dt)
		if e != api.OK {
			return Memory{}, Result{}, e
		}
		wires[n.Name] = output
		next.States[i], result.Wires[i] = state, []api.Value{output}
	}
	for _, l := range r.delayed {
		next.Links = append(next.Links, present(l))
	}
	result.Drives = values(r.drives, r.held)
	return next, result, api.OK
}
