package point

import (
	"plenum/api"
	"plenum/lexer"
	"plenum/lines"
)

// Line returns the canonical line of a point with its kids.
func Line(p api.Point) (api.Line, api.Errno) {
	if e := Check(p); e != api.OK {
		return api.Line{}, e
	}
	kids := kidLines(p)
	return api.Line{
		Tokens:  lines.Words("point", p.Name, kindWords()[p.Kind-1], roleWords()[p.Role-1]),
		Heading: len(kids) > 0,
		Kids:    kids,
	}, api.OK
}

// kidLines returns the canonical kids of a valid point.
func kidLines(p api.Point) []api.Line {
	var kids []api.Line
	add := func(word string, tokens ...api.Token) {
		kids = append(kids, api.Line{Tokens: append(lines.Words(word), tokens...)})
	}
	if p.Unit != "" {
		add("unit", unitToken(p.Unit))
	}
	if isAnalog(p) {
		add("range", lines.Number(p.Low), lines.Word("to"), lines.Number(p.High))
	}
	if p.Step != 0 {
		add("step", lines.Number(p.Step))
	}
	if isMulti(p) {
		add("states", lines.Words(p.States...)...)
	}
	if p.Default != usualDefault(p) {
		add("default", defaultToken(p))
	}
	if p.MinOn != 0 || p.MinOff != 0 {
		add("minimum", lines.Word("on"), lines.Whole(p.MinOn), lines.Word("off"), lines.Whole(p.MinOff))
	}
	return kids
}

// unitToken returns the text of a unit, as a word if it can be one.
func unitToken(text string) api.Token {
	if t := lines.Word(text); lexer.Valid(t) {
		return t
	}
	return api.Token{Kind: api.TokText, Text: text}
}

// defaultToken returns the Default of a valid point that is no input.
func defaultToken(p api.Point) api.Token {
	n := p.Default.N
	switch p.Kind {
	case api.Binary:
		return lines.Word(switchWords()[n])
	case api.Multi:
		return lines.Word(p.States[n-1])
	}
	return lines.Number(n)
}
