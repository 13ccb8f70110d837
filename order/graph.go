package order

import (
	"slices"

	"plenum/api"
)

// graph tells of a connected program from which nodes its links come. Nodes are given by their indices; lists of them are increasing.
type graph struct {
	feeders [][]int // for each node, those from which its inputs come without a delay
	sources [][]int // for each node, those from which its inputs come, delayed or not
	drives  []int   // those from which the drives come
}

// newGraph returns the graph of a program, or the first error.
func newGraph(p api.Program) (graph, api.Errno) {
	if len(p.Nodes) > api.MaxNodes {
		return graph{}, api.ErrTooMany
	}
	indices := map[string]int{}
	for i, n := range p.Nodes {
		indices[n.Name] = i
	}
	if len(indices) < len(p.Nodes) {
		return graph{}, api.ErrDuplicate
	}
	isUnknown := func(l api.Link) bool {
		_, known := indices[l.Node]
		return isFromNode(l) && !known
	}
	if slices.ContainsFunc(links(p), isUnknown) {
		return graph{}, api.ErrUnknown
	}
	g := graph{drives: sources(indices, driveLinks(p))}
	for _, n := range p.Nodes {
		present := slices.DeleteFunc(slices.Clone(n.Inputs), func(l api.Link) bool { return l.Delayed })
		g.feeders = append(g.feeders, sources(indices, present))
		g.sources = append(g.sources, sources(indices, n.Inputs))
	}
	return g, api.OK
}

// isFromNode reports whether a link comes from a node.
func isFromNode(l api.Link) bool { return l.Node != "" }

// links returns the links of the nodes and the drives.
func links(p api.Program) []api.Link {
	list := driveLinks(p)
	for _, n := range p.Nodes {
		list = append(list, n.Inputs...)
	}
	return list
}

// driveLinks returns the links of the drives.
func driveLinks(p api.Program) []api.Link {
	var list []api.Link
	for _, d := range p.Drives {
		list = append(list, d.From)
	}
	return list
}

// sources returns the nodes from which links come.
func sources(indices map[string]int, list []api.Link) []int {
	var nodes []int
	for _, l := range list {
		if isFromNode(l) {
			nodes = append(nodes, indices[l.Node])
		}
	}
	slices.Sort(nodes)
	return slices.Compact(nodes)
}

// reversed returns, for each node, the nodes in whose lists it is, increasing.
func reversed(lists [][]int) [][]int {
	others := make([][]int, len(lists))
	for i, list := range lists {
		for _, k := range list {
			others[k] = append(others[k], i)
		}
	}
	return others
}

// reached tells of each node whether it is one of some nodes, or in the list of one that is reached.
func reached(lists [][]int, from []int) []bool {
	isReached := make([]bool, len(lists))
	waiting := slices.Clone(from)
	for len(waiting) > 0 {
		last := len(waiting) - 1
		i := waiting[last]
		waiting = waiting[:last]
		if !isReached[i] {
			isReached[i] = true
			waiting = append(waiting, lists[i]...)
		}
	}
	return isReached
}

// indicesOf returns the indices of those that are marked, or of those that are not, increasing.
func indicesOf(isMarked []bool, wanted bool) []int {
	var list []int
	for i, marked := range isMarked {
		if marked == wanted {
			list = append(list, i)
		}
	}
	return list
}

// order returns the least order, or false if there is none.
func (g graph) order() ([]int, bool) {
	var list []int
	stands := make([]bool, len(g.feeders))
placing:
	for len(list) < len(g.feeders) {
		for i := range g.feeders {
			if g.mayStand(i, stands) {
				list, stands[i] = append(list, i), true
				continue placing
			}
		}
		return nil, false
	}
	return list, true
}

// isOrder reports whether a list is an order.
func (g graph) isOrder(list []int) bool {
	stands := make([]bool, len(g.feeders))
	for _, i := range list {
		if i < 0 || i >= len(stands) || !g.mayStand(i, stands) {
			return false
		}
		stands[i] = true
	}
	return len(list) == len(stands)
}

// mayStand reports whether a node may be the next one of an order in which some stand. One that feeds itself may never be.
func (g graph) mayStand(i int, stands []bool) bool {
	waits := func(feeder int) bool { return !stands[feeder] }
	return !stands[i] && !slices.ContainsFunc(g.feeders[i], waits)
}

// cycle returns the least one of the shortest cycles, or false if there is none.
func (g graph) cycle() ([]int, bool) {
	var least []int
	next := reversed(g.feeders)
	for start := range next {
		list, exists := cycleFrom(next, start)
		if exists && (least == nil || len(list) < len(least)) {
			least = list
		}
	}
	return least, least != nil
}

// cycleFrom returns the least one of the shortest cycles with a node as their least one, or false if there is none. The search comes to nodes of the same distance in the order of the least ways to them, so the first way that closes a cycle is the least.
func cycleFrom(next [][]int, start int) ([]int, bool) {
	before := map[int]int{}
	queue := []int{start}
	for len(queue) > 0 {
		i := queue[0]
		queue = queue[1:]
		for _, k := range next[i] {
			if k == start {
				return wayTo(i, start, before), true
			}
			if _, seen := before[k]; k > start && !seen {
				before[k] = i
				queue = append(queue, k)
			}
		}
	}
	return nil, false
}

// wayTo returns the nodes from the start to a node, of each of which the one before it is known.
func wayTo(node, start int, before map[int]int) []int {
	list := []int{node}
	for node != start {
		node = before[node]
		list = append(list, node)
	}
	slices.Reverse(list)
	return list
}
