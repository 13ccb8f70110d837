package ranges

import (
	"slices"

	"plenum/api"
	"plenum/order"
	"plenum/program"
)

// graph is a valid program that has an order, with ranges of its points and of the outputs of its nodes.
type graph struct {
	nodes   []api.Node
	boxes   []box
	indices map[string]int // of the nodes
	points  map[string]api.Span
	order   []int
	list    []api.Span
}

// newGraph returns the graph of a program whose nodes have their greatest ranges, or the first error.
func newGraph(p api.Program, points []api.Point) (*graph, api.Errno) {
	if e := program.Check(points, p); e != api.OK {
		return nil, e
	}
	g := &graph{nodes: p.Nodes, indices: map[string]int{}, points: map[string]api.Span{}}
	for _, x := range points {
		s, e := Input(x)
		if e != api.OK {
			return nil, e
		}
		if _, again := g.points[x.Name]; !again {
			g.points[x.Name] = s
		}
	}
	var e api.Errno
	if g.order, e = order.Of(p); e != api.OK {
		return nil, e
	}
	for i, n := range p.Nodes {
		b, _ := newBox(n.Block, n.Params, len(n.Inputs)) // the program is valid
		g.indices[n.Name] = i
		g.boxes, g.list = append(g.boxes, b), append(g.list, b.output())
	}
	return g, api.OK
}

// newGraphOf returns the graph of a program with given ranges of its nodes, or the first error.
func newGraphOf(p api.Program, points []api.Point, list []api.Span) (*graph, api.Errno) {
	g, e := newGraph(p, points)
	if e != api.OK {
		return nil, e
	}
	if len(list) != len(g.nodes) || slices.ContainsFunc(list, isReversed) {
		return nil, api.ErrInvalid
	}
	g.list = list
	return g, api.OK
}

// link returns the range of a link.
func (g *graph) link(l api.Link) api.Span {
	s := only(l.Const.N)
	switch {
	case l.Node != "":
		s = g.list[g.indices[l.Node]]
	case l.Point != "":
		s = g.points[l.Point]
	}
	if l.Delayed {
		return hull(s, only(l.Initial.N))
	}
	return s
}

// node returns the range of the block of a node for the ranges of its inputs.
func (g *graph) node(i int) api.Span {
	var in []api.Span
	for _, l := range g.nodes[i].Inputs {
		in = append(in, g.link(l))
	}
	return g.boxes[i].over(in)
}

// round replaces the ranges of all nodes, in their order, by those of their blocks, and reports whether this changes any.
func (g *graph) round() bool {
	changes := false
	for _, i := range g.order {
		s := g.node(i)
		changes = changes || s != g.list[i]
		g.list[i] = s
	}
	return changes
}
