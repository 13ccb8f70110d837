package point

import (
	"slices"

	"plenum/api"
	"plenum/lines"
)

// kindWords returns the words for the kinds of points, in the order of their numbers from 1 on.
func kindWords() []string { return []string{"analog", "binary", "multi"} }

// roleWords returns the words for the roles of points, in the order of their numbers from 1 on.
func roleWords() []string { return []string{"input", "output", "held"} }

// switchWords returns the words for the values of binary points, in the order of their numbers from 0 on.
func switchWords() []string { return []string{"off", "on"} }

// handler is how a kid is read: for which points it is, and what reads its tokens behind the word.
type handler struct {
	suits func(p api.Point) bool
	read  func(p *api.Point, c *lines.Cursor)
}

// handlers returns the handlers of all kids by their words.
func handlers() map[string]handler {
	return map[string]handler{
		"unit":    {isAnalog, readUnit},
		"range":   {isAnalog, readRange},
		"step":    {isAnalog, readStep},
		"states":  {isMulti, readStates},
		"default": {Commandable, readDefault},
		"minimum": {isBinaryOutput, readMinimum},
	}
}

// Load returns the point that a line and its kids describe, or the first fault.
func Load(l api.Line) (api.Point, api.Fault) {
	p, fault := loadHead(l)
	if fault.Code != api.OK {
		return api.Point{}, fault
	}
	kids, fault := loadKids(&p, l.Kids)
	if fault.Code != api.OK {
		return api.Point{}, fault
	}
	if lacks(p, kids) {
		return api.Point{}, lines.FaultAtEnd(l, api.ErrSyntax)
	}
	// The range or the states may stand behind the default.
	p.Default = usualDefault(p)
	if kid, given := kids["default"]; given {
		p.Default, fault = loadDefault(p, kid)
	}
	if fault.Code != api.OK {
		return api.Point{}, fault
	}
	return p, api.Fault{}
}

// loadHead returns what a line says without its kids.
func loadHead(l api.Line) (api.Point, api.Fault) {
	c := lines.NewCursor(l, 0)
	p := api.Point{}
	c.OneOf("point")
	p.Name = c.Name()
	p.Kind = c.OneOf(kindWords()...)
	p.Role = c.OneOf(roleWords()...)
	c.End()
	return p, c.Fault()
}

// loadKids puts what kids say into a point, their Default apart, and returns them by their words.
func loadKids(p *api.Point, list []api.Line) (map[string]api.Line, api.Fault) {
	known, kids := handlers(), map[string]api.Line{}
	for _, l := range list {
		word := firstWord(l)
		h, ok := known[word]
		if !ok || !h.suits(*p) {
			return nil, lines.FaultAt(l, 0, api.ErrSyntax)
		}
		if _, again := kids[word]; again {
			return nil, lines.FaultAt(l, 0, api.ErrDuplicate)
		}
		kids[word] = l
		c := lines.NewCursor(l, 1)
		h.read(p, c)
		c.End()
		c.Alone()
		if fault := c.Fault(); fault.Code != api.OK {
			return nil, fault
		}
	}
	return kids, api.Fault{}
}

// firstWord returns the word that a line begins with, or nothing.
func firstWord(l api.Line) string {
	if len(l.Tokens) == 0 || l.Tokens[0].Kind != api.TokWord {
		return ""
	}
	return l.Tokens[0].Text
}

// lacks reports whether a kid that the point needs is not among those that were read.
func lacks(p api.Point, kids map[string]api.Line) bool {
	_, hasRange := kids["range"]
	_, hasStates := kids["states"]
	return isAnalog(p) && !hasRange || isMulti(p) && !hasStates
}

// readUnit reads UNIT.
func readUnit(p *api.Point, c *lines.Cursor) {
	t := c.Take(func(t api.Token) bool { return t.Kind == api.TokWord || t.Kind == api.TokText })
	unit, e := canonicalUnit(t.Text)
	if e != api.OK {
		c.Refuse(e)
	}
	p.Unit = unit
}

// readRange reads LOW to HIGH.
func readRange(p *api.Point, c *lines.Cursor) {
	p.Low = c.Number()
	c.OneOf("to")
	if p.High = c.Number(); p.High <= p.Low {
		c.Refuse(api.ErrRange)
	}
}

// readStep reads STEP.
func readStep(p *api.Point, c *lines.Cursor) {
	if p.Step = c.Number(); p.Step < 0 {
		c.Refuse(api.ErrRange)
	}
}

// readStates reads STATE STATE and so on.
func readStates(p *api.Point, c *lines.Cursor) {
	readState(p, c)
	for c.More() {
		readState(p, c)
	}
}

// readState reads STATE.
func readState(p *api.Point, c *lines.Cursor) {
	state := c.Name()
	switch {
	case len(p.States) == api.MaxStates:
		c.Refuse(api.ErrTooMany)
	case slices.Contains(p.States, state):
		c.Refuse(api.ErrDuplicate)
	}
	p.States = append(p.States, state)
}

// readDefault reads V without its meaning.
func readDefault(p *api.Point, c *lines.Cursor) {
	switch p.Kind {
	case api.Analog:
		c.Number()
	case api.Binary:
		c.OneOf(switchWords()...)
	case api.Multi:
		c.Word()
	}
}

// readMinimum reads on N off N.
func readMinimum(p *api.Point, c *lines.Cursor) {
	c.OneOf("on")
	p.MinOn = c.Whole(MaxMinimum)
	c.OneOf("off")
	p.MinOff = c.Whole(MaxMinimum)
}

// loadDefault returns the value that the kid default of a point gives.
func loadDefault(p api.Point, kid api.Line) (api.Value, api.Fault) {
	const at = 1
	t := kid.Tokens[at]
	v := api.Value{Kind: p.Kind}
	switch p.Kind {
	case api.Analog:
		v.N = t.N
		if !Fits(p, v) {
			return api.Value{}, lines.FaultAt(kid, at, api.ErrRange)
		}
	case api.Binary:
		v.N = int64(slices.Index(switchWords(), t.Text))
	case api.Multi:
		state, e := State(p, t.Text)
		if e != api.OK {
			return api.Value{}, lines.FaultAt(kid, at, e)
		}
		v.N = int64(state)
	}
	return v, api.Fault{}
}
