package program

import (
	"slices"

	"plenum/api"
	"plenum/block"
	"plenum/lexer"
	"plenum/point"
)

// Check returns OK for a valid program over points, or the first error.
func Check(points []api.Point, p api.Program) api.Errno {
	if e := checkForm(p); e != api.OK {
		return e
	}
	known := map[string]api.Point{}
	for _, x := range points {
		if _, again := known[x.Name]; !again {
			known[x.Name] = x
		}
	}
	if !hasBlocks(p) || !leadsToKnown(known, p) {
		return api.ErrUnknown
	}
	if e := checkNodes(p); e != api.OK {
		return e
	}
	isCommandable := func(d api.Drive) bool { return point.Commandable(known[d.Point]) }
	if !all(p.Drives, isCommandable) {
		return api.ErrType
	}
	return api.OK
}

// all reports whether something holds for all elements of a list.
func all[T any](list []T, holds func(x T) bool) bool {
	return !slices.ContainsFunc(list, func(x T) bool { return !holds(x) })
}

// checkForm returns the first error for which neither points nor the library of blocks count.
func checkForm(p api.Program) api.Errno {
	hasName := func(n api.Node) bool { return lexer.Name(n.Name) }
	isAllowed := func(d api.Drive) bool { return isDriveLevel(d.Level) }
	switch {
	case len(p.Nodes) > api.MaxNodes || len(p.Drives) > api.MaxPoints:
		return api.ErrTooMany
	case !lexer.Name(p.Name) || !all(p.Nodes, hasName):
		return api.ErrName
	case !areFormed(p):
		return api.ErrInvalid
	case p.Period < 1 || p.Period > api.DaySeconds || !all(p.Drives, isAllowed):
		return api.ErrRange
	case hasDuplicate(p):
		return api.ErrDuplicate
	}
	return api.OK
}

// isDriveLevel reports whether a drive may have a level. Programs leave 1 and 8 to people, 2 to life-safety modes and 6 to minimum times.
func isDriveLevel(level int) bool {
	switch level {
	case 1, 2, 6, 8:
		return false
	}
	return 1 <= level && level <= api.Levels
}

// hasDuplicate reports whether nodes, params of a node or drives are not distinct, or params are not sorted.
func hasDuplicate(p api.Program) bool {
	var names []string
	for _, n := range p.Nodes {
		names = append(names, n.Name)
		for i := 1; i < len(n.Params); i++ {
			if n.Params[i-1].Name >= n.Params[i].Name {
				return true
			}
		}
	}
	return len(sortedOnce(names)) < len(p.Nodes) || len(Drives(p)) < len(p.Drives)
}

// hasBlocks reports whether there are the blocks of all nodes, and their parameters.
func hasBlocks(p api.Program) bool {
	return all(p.Nodes, func(n api.Node) bool {
		d, e := block.Find(n.Block)
		isParam := func(x api.Param) bool {
			return slices.ContainsFunc(d.Params, func(b api.Bound) bool { return b.Name == x.Name })
		}
		return e == api.OK && all(n.Params, isParam)
	})
}

// leadsToKnown reports whether there are all nodes and points to which formed links and drives lead.
func leadsToKnown(points map[string]api.Point, p api.Program) bool {
	nodes := firstNodes(p)
	isPoint := func(name string) bool {
		_, known := points[name]
		return known
	}
	leads := func(l api.Link) bool {
		_, isNode := nodes[l.Node]
		return (l.Node == "" || isNode) && (l.Point == "" || isPoint(l.Point))
	}
	return all(Links(p), leads) && all(p.Drives, func(d api.Drive) bool { return isPoint(d.Point) })
}

// firstNodes returns the indices of the first nodes with each name.
func firstNodes(p api.Program) map[string]int {
	nodes := map[string]int{}
	for i, n := range p.Nodes {
		if _, again := nodes[n.Name]; !again {
			nodes[n.Name] = i
		}
	}
	return nodes
}

// checkNodes returns OK if the inputs and the params of all nodes are those of their blocks, or the first error.
func checkNodes(p api.Program) api.Errno {
	for _, n := range p.Nodes {
		if _, e := block.Inputs(n.Block, len(n.Inputs)); e != api.OK {
			return e
		}
	}
	for _, n := range p.Nodes {
		if _, e := block.Params(n.Block, n.Params); e != api.OK {
			return e
		}
	}
	return api.OK
}
