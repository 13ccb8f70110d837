package typing

import (
	"plenum/api"
	"plenum/links"
	"plenum/wire"
)

// output stands for the input of a clash that is at an output.
const output = -1

// anyMulti returns what a port wants that takes multi-state values with any number of states.
func anyMulti() api.Type { return api.Type{Kind: api.Multi} }

// clash returns the first clash for the types of a graph, in which no node is without one, and whether there is one.
func (g *graph) clash() (Clash, bool) {
	for i, n := range g.nodes {
		if c, clashes := g.nodeClash(n, g.types[i]); clashes {
			c.Node = n.Name
			return c, true
		}
	}
	for i, d := range g.drives {
		if c, clashes := g.linkClash(d.From, g.points[d.Point]); clashes {
			c.Input = i
			return c, true
		}
	}
	return Clash{}, false
}

// nodeClash returns the first clash at a node whose output has a type.
func (g *graph) nodeClash(n node, have api.Type) (Clash, bool) {
	letters := g.letters(n)
	for i, l := range n.Inputs {
		if c, clashes := g.linkClash(l, wanted(n.ports[i].Type, letters)); clashes {
			c.Input = i
			return c, true
		}
	}
	want, exists := n.outputType(letters)
	switch {
	case have != want:
		return Clash{Input: output, Have: have, Want: want}, true
	case !exists:
		return Clash{Input: output, Have: have, Want: have}, true
	}
	return Clash{}, false
}

// wanted returns the type that the text of an input asks for. A letter for analog types that stands for another one asks for plain numbers.
func wanted(text string, letters map[string]api.Type) api.Type {
	switch text {
	case firstLetter, secondLetter:
		if letters[text].Kind != api.Analog {
			return plain()
		}
		return letters[text]
	case anyLetter:
		return letters[text]
	case multiText:
		return anyMulti()
	}
	return portType(text)
}

// linkClash returns the clash of a link with the type that is wanted of it.
func (g *graph) linkClash(l api.Link, want api.Type) (Clash, bool) {
	have := g.link(l)
	if l.Delayed && !wire.Fits(l.Initial, have) {
		initial, _ := Natural(l.Initial)
		return Clash{Have: initial, Want: have}, true
	}
	fits := have == want
	switch {
	case want == anyMulti():
		fits = have.Kind == api.Multi
	case links.FromConstant(l):
		fits = wire.Fits(l.Const, want)
	}
	return Clash{Have: have, Want: want}, !fits
}
