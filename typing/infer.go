package typing

import (
	"slices"
	"strings"

	"plenum/api"
	"plenum/links"
	"plenum/units"
	"plenum/wire"
)

// The letters of the types of inputs. The first two stand for analog types.
const (
	firstLetter  = "U"
	secondLetter = "V"
	anyLetter    = "T"
)

// The types of outputs that two letters make.
const (
	productText  = "U*V"
	quotientText = "U/V"
)

// multiText is the text of a multi-state port, whatever its states are.
const multiText = "multi"

// lettersOf returns the letters of the text of the type of an output.
func lettersOf(text string) []string {
	switch text {
	case firstLetter, secondLetter, anyLetter:
		return []string{text}
	case productText, quotientText:
		return []string{firstLetter, secondLetter}
	}
	return nil
}

// infer gives types to all nodes.
func (g *graph) infer() {
	for range g.nodes {
		g.inferNext()
	}
}

// inferNext gives a type to the first node without one whose type can be determined, or, if there is none, to the first node without one.
func (g *graph) inferNext() {
	var waiting []int
	for i, n := range g.nodes {
		if g.types[i] != (api.Type{}) {
			continue
		}
		if letters := g.letters(n); n.isDetermined(letters) {
			g.types[i], _ = n.outputType(letters)
			return
		}
		waiting = append(waiting, i)
	}
	first := waiting[0]
	g.types[first] = g.nodes[first].assumed()
}

// isDetermined reports whether the letters that are known determine the type of a node's output.
func (n node) isDetermined(letters map[string]api.Type) bool {
	isUnknown := func(letter string) bool {
		_, known := letters[letter]
		return !known
	}
	return !slices.ContainsFunc(lettersOf(n.output), isUnknown)
}

// assumed returns the type of a node's output where cycles do not determine it.
func (n node) assumed() api.Type {
	letters := lettersOf(n.output)
	for i, l := range n.Inputs {
		if l.Delayed && !links.FromConstant(l) && slices.Contains(letters, n.ports[i].Type) {
			t, _ := Natural(l.Initial)
			return t
		}
	}
	return plain()
}

// outputType returns the type that a node's output should have, and whether there is a unit as it asks for.
func (n node) outputType(letters map[string]api.Type) (api.Type, bool) {
	switch n.output {
	case firstLetter, secondLetter, anyLetter:
		return letters[n.output], true
	case productText:
		return combined(units.Mul, letters)
	case quotientText:
		return combined(units.Div, letters)
	case multiText:
		return api.Type{Kind: api.Multi, States: n.steps() + 1}, true
	}
	return portType(n.output), true
}

// steps returns the number of stages or of steps of a node with a multi-state output.
func (n node) steps() int {
	if n.Block == "stage" {
		return int(n.params["stages"])
	}
	return int(n.params["count"])
}

// combined returns the analog type whose unit an operation makes of those of both letters, and whether there is one; otherwise the type of plain numbers.
func combined(operate func(a, b units.Unit) (units.Unit, api.Errno), letters map[string]api.Type) (api.Type, bool) {
	// A letter that is not analog has no unit that can be read.
	a, e := units.Parse(letters[firstLetter].Unit)
	b, f := units.Parse(letters[secondLetter].Unit)
	if e != api.OK || f != api.OK {
		return plain(), false
	}
	unit, e := operate(a, b)
	if e != api.OK {
		return plain(), false
	}
	text, _ := units.Print(unit)
	return api.Type{Kind: api.Analog, Unit: text}, true
}

// portType returns the type that the text of a port describes: binary, analog, or analog and a unit.
func portType(text string) api.Type {
	kind, unit, _ := strings.Cut(text, " ")
	p := api.Point{Kind: api.Binary}
	if kind == "analog" {
		p = api.Point{Kind: api.Analog, Unit: unit}
	}
	t, _ := wire.Of(p)
	return t
}
