package program

import (
	"slices"

	"plenum/api"
	"plenum/lexer"
	"plenum/lines"
	"plenum/links"
)

// Line returns the canonical line of a program with its kids.
func Line(p api.Program) (api.Line, api.Errno) {
	if !areFormed(p) {
		return api.Line{}, api.ErrInvalid
	}
	l := programLine(p)
	if !isPossible(l) {
		return api.Line{}, api.ErrInvalid
	}
	if again, fault := Load(l); fault.Code != api.OK || !Equal(again, p) {
		return api.Line{}, api.ErrInvalid
	}
	return l, api.OK
}

// areFormed reports whether all links of a program are formed.
func areFormed(p api.Program) bool {
	return !slices.ContainsFunc(Links(p), func(l api.Link) bool { return !links.IsFormed(l) })
}

// isPossible reports whether all tokens of a line with its kids are possible.
func isPossible(l api.Line) bool {
	for _, t := range l.Tokens {
		if !lexer.Valid(t) {
			return false
		}
	}
	return !slices.ContainsFunc(l.Kids, func(kid api.Line) bool { return !isPossible(kid) })
}

// lineOf returns a line with kids, of which it is the heading.
func lineOf(kids []api.Line, tokens ...api.Token) api.Line {
	return api.Line{Tokens: tokens, Heading: len(kids) > 0, Kids: kids}
}

// programLine returns the line of a program whose links are formed, if it has one.
func programLine(p api.Program) api.Line {
	var kids []api.Line
	for _, n := range p.Nodes {
		kids = append(kids, nodeLine(n))
	}
	for _, d := range p.Drives {
		tokens := append(lines.Words(driveWord, d.Point, levelWord), lines.Whole(d.Level), lines.Word(fromWord))
		kids = append(kids, lineOf(nil, append(tokens, linkTokens(d.From)...)...))
	}
	return lineOf(kids, append(lines.Words(programWord, p.Name, periodWord), lines.Whole(p.Period))...)
}

// nodeLine returns the line of a node.
func nodeLine(n api.Node) api.Line {
	var kids []api.Line
	for _, param := range n.Params {
		number := lines.Number(param.Value)
		if isWhole(n.Block, param.Name) {
			number = lines.Whole(int(param.Value))
		}
		kids = append(kids, lineOf(nil, append(lines.Words(paramWord, param.Name), number)...))
	}
	for _, l := range n.Inputs {
		kids = append(kids, lineOf(nil, append(lines.Words(inWord), linkTokens(l)...)...))
	}
	return lineOf(kids, lines.Words(nodeWord, n.Name, n.Block)...)
}

// linkTokens returns the tokens of a formed link.
func linkTokens(l api.Link) []api.Token {
	tokens := sourceTokens(l)
	if !l.Delayed {
		return tokens
	}
	tokens = append(tokens, lines.Word(delayedWord))
	return append(tokens, constantTokens(l.Initial)...)
}

// sourceTokens returns the tokens of what a formed link comes from.
func sourceTokens(l api.Link) []api.Token {
	switch {
	case l.Node != "":
		return lines.Words(nodeWord, l.Node)
	case l.Point != "":
		return lines.Words(pointWord, l.Point)
	}
	return constantTokens(l.Const)
}

// constantTokens returns the tokens of a constant.
func constantTokens(v api.Value) []api.Token {
	switch v.Kind {
	case api.Binary:
		return lines.Words(binaryWord, switchWords()[v.N])
	case api.Multi:
		return append(lines.Words(multiWord), lines.Whole(int(v.N)))
	}
	return append(lines.Words(analogWord), lines.Number(v.N))
}
