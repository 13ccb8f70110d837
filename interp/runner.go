package interp

import (
	"slices"

	"plenum/api"
	"plenum/block"
	"plenum/links"
	"plenum/order"
	"plenum/program"
)

// runner is a program that can run.
type runner struct {
	nodes   []node
	order   []int      // in which the nodes are evaluated
	drives  []api.Link // the links of the drives
	held    int        // the place of the first delayed link of the drives among all delayed ones
	delayed []api.Link
	reads   []string // the points from which links come
}

// node is a node with what its evaluation needs.
type node struct {
	api.Node
	evaluate evaluator
	params   []int64
	state    int // the length of its state
	held     int // the place of its first delayed link among all delayed ones
}

// newRunner returns the runner of a program, or the first error.
func newRunner(p api.Program) (*runner, api.Errno) {
	list, e := order.Of(p)
	if e != api.OK {
		return nil, e
	}
	isFormless := func(l api.Link) bool { return !links.IsFormed(l) }
	if slices.ContainsFunc(program.Links(p), isFormless) {
		return nil, api.ErrInvalid
	}
	r := &runner{order: list, reads: program.Reads(p)}
	library := evaluators()
	for _, n := range p.Nodes {
		params, size, e := blockOf(n)
		if e != api.OK {
			return nil, e
		}
		r.nodes = append(r.nodes, node{n, library[n.Block], params, size, len(r.delayed)})
		r.hold(n.Inputs)
	}
	for _, d := range p.Drives {
		r.drives = append(r.drives, d.From)
	}
	r.held = len(r.delayed)
	r.hold(r.drives)
	return r, api.OK
}

// blockOf returns the parameters of a node's block and the length of its state, or the first error.
func blockOf(n api.Node) ([]int64, int, api.Errno) {
	params, e := block.Params(n.Block, n.Params)
	if e != api.OK {
		return nil, 0, e
	}
	if _, e := block.Inputs(n.Block, len(n.Inputs)); e != api.OK {
		return nil, 0, e
	}
	d, _ := block.Find(n.Block)
	return params, d.State, api.OK
}

// hold adds the delayed ones of some links to those of the program.
func (r *runner) hold(list []api.Link) {
	for _, l := range list {
		if l.Delayed {
			r.delayed = append(r.delayed, l)
		}
	}
}

// isOrder reports whether the nodes of a program can be evaluated in an order.
func isOrder(p api.Program, list []int) bool { return order.Valid(p, list) }

// isTime reports whether so many seconds can lie between two scans.
func isTime(dt int) bool { return 1 <= dt && dt <= api.DaySeconds }

// start returns the memory before the first scan.
func (r *runner) start() Memory {
	var m Memory
	for _, n := range r.nodes {
		m.States = append(m.States, make([]int64, n.state))
	}
	for _, l := range r.delayed {
		m.Links = append(m.Links, l.Initial)
	}
	return m
}

// canHave reports whether a memory has as many states, numbers in them and values of links as the program needs.
func (r *runner) canHave(m Memory) bool {
	hasLength := func(state []int64, n node) bool { return len(state) == n.state }
	return slices.EqualFunc(m.States, r.nodes, hasLength) && len(m.Links) == len(r.delayed)
}

// pointsOf returns the values of the points that inputs have, or the first error.
func (r *runner) pointsOf(inputs []api.Setting) (map[string]api.Value, api.Errno) {
	points := map[string]api.Value{}
	for _, s := range inputs {
		points[s.Point] = s.Value
	}
	if len(points) < len(inputs) {
		return nil, api.ErrDuplicate
	}
	for _, name := range r.reads {
		if _, given := points[name]; !given {
			return nil, api.ErrUnknown
		}
	}
	return points, api.OK
}
