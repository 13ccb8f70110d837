package program

import (
	"slices"

	"plenum/api"
	"plenum/lexer"
)

// copied returns a node in new memory.
func copied(n api.Node) api.Node {
	n.Params, n.Inputs = slices.Clone(n.Params), slices.Clone(n.Inputs)
	return n
}

// Used returns the program without the nodes on which no drive depends.
func Used(p api.Program) (api.Program, api.Errno) {
	isUsed, e := usedNodes(p)
	if e != api.OK {
		return api.Program{}, e
	}
	used := p
	used.Nodes, used.Drives = nil, slices.Clone(p.Drives)
	for i, n := range p.Nodes {
		if isUsed[i] {
			used.Nodes = append(used.Nodes, copied(n))
		}
	}
	return used, api.OK
}

// usedNodes tells of each node whether it is used.
func usedNodes(p api.Program) ([]bool, api.Errno) {
	nodes, isUsed := firstNodes(p), make([]bool, len(p.Nodes))
	var waiting []api.Link
	for _, d := range p.Drives {
		waiting = append(waiting, d.From)
	}
	for len(waiting) > 0 {
		last := len(waiting) - 1
		l := waiting[last]
		waiting = waiting[:last]
		if l.Node == "" {
			continue
		}
		i, known := nodes[l.Node]
		if !known {
			return nil, api.ErrUnknown
		}
		if !isUsed[i] {
			isUsed[i] = true
			waiting = append(waiting, p.Nodes[i].Inputs...)
		}
	}
	return isUsed, api.OK
}

// Rename returns the program with another name of a node.
func Rename(p api.Program, node, name string) (api.Program, api.Errno) {
	at, e := Find(p, node)
	if e != api.OK {
		return api.Program{}, e
	}
	if !lexer.Name(name) {
		return api.Program{}, api.ErrName
	}
	renamed := p
	renamed.Nodes, renamed.Drives = nil, slices.Clone(p.Drives)
	for i, n := range p.Nodes {
		if i != at && n.Name == name {
			return api.Program{}, api.ErrDuplicate
		}
		renamed.Nodes = append(renamed.Nodes, copied(n))
	}
	renamed.Nodes[at].Name = name
	lead := func(l *api.Link) {
		if l.Node == node && node != "" {
			l.Node = name
		}
	}
	for i := range renamed.Drives {
		lead(&renamed.Drives[i].From)
	}
	for _, n := range renamed.Nodes {
		for i := range n.Inputs {
			lead(&n.Inputs[i])
		}
	}
	return renamed, api.OK
}
