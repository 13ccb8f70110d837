package program

import (
	"cmp"
	"slices"

	"plenum/api"
	"plenum/lines"
)

// cursor reads the tokens of a line of a program.
type cursor struct{ *lines.Cursor }

// readers are what reads a line behind its first word, and the lines that belong to it.
type readers map[string]func(c cursor, kids []api.Line) api.Fault

// read reads a line by the reader for its first word.
func (r readers) read(l api.Line) api.Fault {
	c := cursor{lines.NewCursor(l, 0)}
	read, known := r[c.Word()]
	if !known {
		c.Refuse(api.ErrSyntax)
		return c.Fault()
	}
	return read(c, l.Kids)
}

// readAll reads lines until one has a fault.
func (r readers) readAll(list []api.Line) api.Fault {
	for _, l := range list {
		if fault := r.read(l); fault.Code != api.OK {
			return fault
		}
	}
	return api.Fault{}
}

// Load returns the program that a line and its kids describe, or the first fault.
func Load(l api.Line) (api.Program, api.Fault) {
	p := &programReader{}
	if fault := (readers{programWord: p.readProgram}).read(l); fault.Code != api.OK {
		return api.Program{}, fault
	}
	return p.program, api.Fault{}
}

// programReader keeps what has been read of a program.
type programReader struct{ program api.Program }

// readProgram reads NAME period SECONDS, and the kids.
func (p *programReader) readProgram(c cursor, kids []api.Line) api.Fault {
	p.program.Name = c.Name()
	c.OneOf(periodWord)
	p.program.Period = c.Count(api.DaySeconds)
	c.End()
	if fault := c.Fault(); fault.Code != api.OK {
		return fault
	}
	return readers{nodeWord: p.readNode, driveWord: p.readDrive}.readAll(kids)
}

// readNode reads NAME BLOCK, and the kids.
func (p *programReader) readNode(c cursor, kids []api.Line) api.Fault {
	c.refuseMore(len(p.program.Nodes), api.MaxNodes)
	n := &nodeReader{given: map[string]bool{}}
	n.node.Name = c.Name()
	n.node.Block = c.Word()
	c.End()
	if fault := c.Fault(); fault.Code != api.OK {
		return fault
	}
	if fault := (readers{paramWord: n.readParam, inWord: n.readIn}).readAll(kids); fault.Code != api.OK {
		return fault
	}
	slices.SortFunc(n.node.Params, func(a, b api.Param) int { return cmp.Compare(a.Name, b.Name) })
	p.program.Nodes = append(p.program.Nodes, n.node)
	return api.Fault{}
}

// readDrive reads POINT level LEVEL from LINK.
func (p *programReader) readDrive(c cursor, _ []api.Line) api.Fault {
	c.refuseMore(len(p.program.Drives), api.MaxPoints)
	d := api.Drive{Point: c.Name()}
	c.OneOf(levelWord)
	d.Level = c.Count(api.Levels)
	c.OneOf(fromWord)
	d.From = c.link()
	p.program.Drives = append(p.program.Drives, d)
	c.Alone()
	return c.Fault()
}

// nodeReader keeps what has been read of a node, and the names of the params among it.
type nodeReader struct {
	node  api.Node
	given map[string]bool
}

// readParam reads NAME NUMBER.
func (n *nodeReader) readParam(c cursor, _ []api.Line) api.Fault {
	param := api.Param{Name: c.Word()}
	if n.given[param.Name] {
		c.Refuse(api.ErrDuplicate)
	}
	n.given[param.Name] = true
	if isWhole(n.node.Block, param.Name) {
		param.Value = c.Integer()
	} else {
		param.Value = c.Number()
	}
	n.node.Params = append(n.node.Params, param)
	c.End()
	c.Alone()
	return c.Fault()
}

// readIn reads LINK.
func (n *nodeReader) readIn(c cursor, _ []api.Line) api.Fault {
	c.refuseMore(len(n.node.Inputs), api.MaxInputs)
	n.node.Inputs = append(n.node.Inputs, c.link())
	c.Alone()
	return c.Fault()
}

// refuseMore notes a fault at the first token if there are as many things of its kind as are allowed.
func (c cursor) refuseMore(count, most int) {
	if count >= most {
		c.Refuse(api.ErrTooMany)
	}
}

// link reads LINK, up to the end of the line.
func (c cursor) link() api.Link {
	l := api.Link{}
	switch word := c.Word(); word {
	case nodeWord:
		l.Node = c.Name()
	case pointWord:
		l.Point = c.Name()
	default:
		l.Const = c.constant(word)
	}
	if c.More() {
		c.OneOf(delayedWord)
		l.Delayed = true
		l.Initial = c.constant(c.Word())
	}
	c.End()
	return l
}

// constant reads a constant behind its first word.
func (c cursor) constant(word string) api.Value {
	reads := map[string]func() api.Value{analogWord: c.analog, binaryWord: c.binary, multiWord: c.multi}
	read, known := reads[word]
	if !known {
		c.Refuse(api.ErrSyntax)
		return api.Value{}
	}
	return read()
}

// analog reads NUMBER.
func (c cursor) analog() api.Value { return api.Value{Kind: api.Analog, N: c.Number()} }

// binary reads on or off.
func (c cursor) binary() api.Value {
	return api.Value{Kind: api.Binary, N: int64(c.OneOf(switchWords()...) - 1)}
}

// multi reads the NUMBER of a state.
func (c cursor) multi() api.Value {
	return api.Value{Kind: api.Multi, N: int64(c.Count(api.MaxStates))}
}
