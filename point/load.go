package point

import (
	"slices"

	"plenum/api"
	"plenum/lexer"
)

// kindWords returns the words for the kinds of points, in the order of their numbers from 1 on.
func kindWords() []string { return []string{"analog", "binary", "multi"} }

// roleWords returns the words for the roles of points, in the order of their numbers from 1 on.
func roleWords() []string { return []string{"input", "output", "held"} }

// switchWords returns the words for the values of binary points, in the order of their numbers from 0 on.
func switchWords() []string { return []string{"off", "on"} }

// handler is how a kid is read: for which points it is, and what reads its tokens behind the word.
type handler struct {
	suits func(p api.Point) bool
	read  func(p *api.Point, c *cursor)
}

// handlers returns the handlers of all kids by their words.
func handlers() map[string]handler {
	return map[string]handler{
		"unit":    {isAnalog, readUnit},
		"range":   {isAnalog, readRange},
		"step":    {isAnalog, readStep},
		"states":  {isMulti, readStates},
		"default": {Commandable, readDefault},
		"minimum": {isBinaryOutput, readMinimum},
	}
}

// Load returns the point that a line and its kids describe, or the first fault.
func Load(l api.Line) (api.Point, api.Fault) {
	p, fault := loadHead(l)
	if fault.Code != api.OK {
		return api.Point{}, fault
	}
	kids, fault := loadKids(&p, l.Kids)
	if fault.Code != api.OK {
		return api.Point{}, fault
	}
	if lacks(p, kids) {
		return api.Point{}, faultAtEnd(l, api.ErrSyntax)
	}
	// The range or the states may stand behind the default.
	p.Default = usualDefault(p)
	if kid, given := kids["default"]; given {
		p.Default, fault = loadDefault(p, kid)
	}
	if fault.Code != api.OK {
		return api.Point{}, fault
	}
	return p, api.Fault{}
}

// loadHead returns what a line says without its kids.
func loadHead(l api.Line) (api.Point, api.Fault) {
	c := &cursor{line: l}
	p := api.Point{}
	c.oneOf("point")
	if p.Name = c.word(); !lexer.Name(p.Name) {
		c.refuse(api.ErrName)
	}
	p.Kind = c.oneOf(kindWords()...)
	p.Role = c.oneOf(roleWords()...)
	c.end()
	return p, c.fault
}

// loadKids puts what kids say into a point, their Default apart, and returns them by their words.
func loadKids(p *api.Point, list []api.Line) (map[string]api.Line, api.Fault) {
	known, kids := handlers(), map[string]api.Line{}
	for _, l := range list {
		word := firstWord(l)
		h, ok := known[word]
		if !ok || !h.suits(*p) {
			return nil, faultAt(l, 0, api.ErrSyntax)
		}
		if _, again := kids[word]; again {
			return nil, faultAt(l, 0, api.ErrDuplicate)
		}
		kids[word] = l
		c := &cursor{line: l, next: 1}
		h.read(p, c)
		c.end()
		if l.Heading || len(l.Kids) > 0 {
			c.fail(len(l.Tokens), api.ErrSyntax)
		}
		if c.fault.Code != api.OK {
			return nil, c.fault
		}
	}
	return kids, api.Fault{}
}

// firstWord returns the word that a line begins with, or nothing.
func firstWord(l api.Line) string {
	if len(l.Tokens) == 0 || l.Tokens[0].Kind != api.TokWord {
		return ""
	}
	return l.Tokens[0].Text
}

// lacks reports whether a kid that the point needs is not among those that were read.
func lacks(p api.Point, kids map[string]api.Line) bool {
	_, hasRange := kids["range"]
	_, hasStates := kids["states"]
	return isAnalog(p) && !hasRange || isMulti(p) && !hasStates
}

// readUnit reads UNIT.
func readUnit(p *api.Point, c *cursor) {
	t := c.take(func(t api.Token) bool { return t.Kind == api.TokWord || t.Kind == api.TokText })
	unit, e := canonicalUnit(t.Text)
	if e != api.OK {
		c.refuse(e)
	}
	p.Unit = unit
}

// readRange reads LOW to HIGH.
func readRange(p *api.Point, c *cursor) {
	p.Low = c.number()
	c.oneOf("to")
	if p.High = c.number(); p.High <= p.Low {
		c.refuse(api.ErrRange)
	}
}

// readStep reads STEP.
func readStep(p *api.Point, c *cursor) {
	if p.Step = c.number(); p.Step < 0 {
		c.refuse(api.ErrRange)
	}
}

// readStates reads STATE STATE and so on.
func readStates(p *api.Point, c *cursor) {
	readState(p, c)
	for c.more() {
		readState(p, c)
	}
}

// readState reads STATE.
func readState(p *api.Point, c *cursor) {
	state := c.word()
	switch {
	case !lexer.Name(state):
		c.refuse(api.ErrName)
	case len(p.States) == api.MaxStates:
		c.refuse(api.ErrTooMany)
	case slices.Contains(p.States, state):
		c.refuse(api.ErrDuplicate)
	}
	p.States = append(p.States, state)
}

// readDefault reads V without its meaning.
func readDefault(p *api.Point, c *cursor) {
	switch p.Kind {
	case api.Analog:
		c.number()
	case api.Binary:
		c.oneOf(switchWords()...)
	case api.Multi:
		c.word()
	}
}

// readMinimum reads on N off N.
func readMinimum(p *api.Point, c *cursor) {
	c.oneOf("on")
	p.MinOn = c.seconds()
	c.oneOf("off")
	p.MinOff = c.seconds()
}

// loadDefault returns the value that the kid default of a point gives.
func loadDefault(p api.Point, kid api.Line) (api.Value, api.Fault) {
	const at = 1
	t := kid.Tokens[at]
	v := api.Value{Kind: p.Kind}
	switch p.Kind {
	case api.Analog:
		v.N = t.N
		if !Fits(p, v) {
			return api.Value{}, faultAt(kid, at, api.ErrRange)
		}
	case api.Binary:
		v.N = int64(slices.Index(switchWords(), t.Text))
	case api.Multi:
		state, e := State(p, t.Text)
		if e != api.OK {
			return api.Value{}, faultAt(kid, at, e)
		}
		v.N = int64(state)
	}
	return v, api.Fault{}
}
