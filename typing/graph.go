package typing

import (
	"cmp"

	"plenum/api"
	"plenum/block"
	"plenum/links"
	"plenum/point"
	"plenum/program"
	"plenum/wire"
)

// graph is a valid program with the types of its points, and with the types of the outputs of its nodes, where the zero Type stands for none.
type graph struct {
	nodes   []node
	drives  []api.Drive
	points  map[string]api.Type
	indices map[string]int // of the nodes
	types   []api.Type
}

// node is a node with its inputs and the text of the type of its output, and the values of its parameters by their names.
type node struct {
	api.Node
	ports  []api.Port
	output string
	params map[string]int64
}

// newGraph returns the graph of a program without types of its nodes, or the first error.
func newGraph(p api.Program, points []api.Point) (*graph, api.Errno) {
	g := &graph{drives: p.Drives, points: map[string]api.Type{}, indices: map[string]int{}}
	for _, x := range points {
		if point.Check(x) != api.OK {
			return nil, api.ErrInvalid
		}
		g.points[x.Name], _ = wire.Of(x)
	}
	if len(g.points) != len(points) {
		return nil, api.ErrInvalid
	}
	if e := program.Check(points, p); e != api.OK {
		return nil, e
	}
	for i, n := range p.Nodes {
		g.nodes = append(g.nodes, newNode(n))
		g.indices[n.Name] = i
	}
	g.types = make([]api.Type, len(p.Nodes))
	return g, api.OK
}

// newNode returns a node of a valid program with what its block says.
func newNode(n api.Node) node {
	d, _ := block.Find(n.Block)
	ports, _ := block.Inputs(n.Block, len(n.Inputs))
	values, _ := block.Params(n.Block, n.Params)
	params := map[string]int64{}
	for i, value := range values {
		params[d.Params[i].Name] = value
	}
	return node{Node: n, ports: ports, output: d.Outputs[0].Type, params: params}
}

// link returns the type of a link.
func (g *graph) link(l api.Link) api.Type {
	switch {
	case l.Node != "":
		return g.types[g.indices[l.Node]]
	case l.Point != "":
		return g.points[l.Point]
	}
	t, _ := Natural(l.Const)
	return t
}

// letters returns the types for which the letters of a node stand, as far as they are known.
func (g *graph) letters(n node) map[string]api.Type {
	letters := map[string]api.Type{}
	for _, letter := range []string{anyLetter, firstLetter, secondLetter} {
		if t := g.letter(n, letter); t != (api.Type{}) {
			letters[letter] = t
		}
	}
	return letters
}

// letter returns the type for which a letter of a node stands: that of the first input with the letter that has a type and is no constant, or, if all of them are constants, that of the first one.
func (g *graph) letter(n node, letter string) api.Type {
	constant, isOpen := api.Type{}, false
	for i, l := range n.Inputs {
		t := g.link(l)
		switch {
		case n.ports[i].Type != letter:
		case links.FromConstant(l):
			constant = cmp.Or(constant, t)
		case t != api.Type{}:
			return t
		default:
			isOpen = true
		}
	}
	if isOpen {
		return api.Type{}
	}
	return constant
}
