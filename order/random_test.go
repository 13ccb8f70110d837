package order_test

import (
	"math/rand"
	"slices"
	"strconv"
	"testing"

	"plenum/api"
	"plenum/order"
)

// randomProgram returns a connected program with so many nodes and at most so many inputs of each. Often its links without a delay lead back only.
func randomProgram(source *rand.Rand, count, inputs int) api.Program {
	p := many(count)
	rank := source.Perm(count)
	isAcyclic := source.Intn(2) == 0
	random := func() (api.Link, int) {
		i := source.Intn(count)
		return api.Link{Node: p.Nodes[i].Name, Delayed: source.Intn(4) == 0}, i
	}
	for i := range p.Nodes {
		for range source.Intn(inputs + 1) {
			l, from := random()
			switch {
			case source.Intn(6) == 0:
				l = api.Link{Point: "n" + strconv.Itoa(from), Delayed: l.Delayed}
			case isAcyclic && rank[from] >= rank[i], from == i && source.Intn(8) > 0:
				l.Delayed = true
			}
			p.Nodes[i].Inputs = append(p.Nodes[i].Inputs, l)
		}
	}
	for range source.Intn(3) {
		if l, _ := random(); count > 0 && source.Intn(4) > 0 {
			p.Drives = append(p.Drives, api.Drive{From: l})
		}
	}
	return p
}

// index returns the index of the node from which a link comes, or -1.
func index(p api.Program, l api.Link) int {
	return slices.IndexFunc(p.Nodes, func(n api.Node) bool { return l.Node != "" && n.Name == l.Node })
}

// feeds reports whether the node i feeds the node k.
func feeds(p api.Program, i, k int) bool {
	return slices.ContainsFunc(p.Nodes[k].Inputs, func(l api.Link) bool { return !l.Delayed && index(p, l) == i })
}

// isOrder reports whether a list is an order, by the definition; of a program with a cycle none is.
func isOrder(p api.Program, list []int) bool {
	for i := range p.Nodes {
		if !slices.Contains(list, i) || feeds(p, i, i) {
			return false
		}
	}
	for at, k := range list {
		for _, i := range list[at+1:] {
			if feeds(p, i, k) {
				return false
			}
		}
	}
	return len(list) == len(p.Nodes)
}

// lists returns all lists of different numbers up to count, in their order, with a length.
func lists(count, length int) [][]int {
	if length == 0 {
		return [][]int{nil}
	}
	var all [][]int
	for _, list := range lists(count, length-1) {
		for i := range count {
			if !slices.Contains(list, i) {
				all = append(all, append(slices.Clone(list), i))
			}
		}
	}
	return all
}

// leastOrder returns the least order, or nil.
func leastOrder(p api.Program) []int {
	for _, list := range lists(len(p.Nodes), len(p.Nodes)) {
		if isOrder(p, list) {
			return list
		}
	}
	return nil
}

// leastCycle returns the least cycle of those with the fewest nodes, or nil.
func leastCycle(p api.Program) []int {
	for length := 1; length <= len(p.Nodes); length++ {
		for _, list := range lists(len(p.Nodes), length) {
			isCycle := slices.Min(list) == list[0]
			for at, i := range list {
				isCycle = isCycle && feeds(p, i, list[(at+1)%length])
			}
			if isCycle {
				return list
			}
		}
	}
	return nil
}

// level returns the level of a node of a program without a cycle.
func level(p api.Program, k int) int {
	greatest := 0
	for i := range p.Nodes {
		if feeds(p, i, k) {
			greatest = max(greatest, 1+level(p, i))
		}
	}
	return greatest
}

// dependence tells for all k and i whether the node k depends on the node i.
func dependence(p api.Program) [][]bool {
	depends := make([][]bool, len(p.Nodes))
	for k, n := range p.Nodes {
		depends[k] = make([]bool, len(p.Nodes))
		for _, l := range n.Inputs {
			if i := index(p, l); i >= 0 {
				depends[k][i] = true
			}
		}
	}
	for middle := range depends {
		for k := range depends {
			for i := range depends {
				depends[k][i] = depends[k][i] || depends[k][middle] && depends[middle][i]
			}
		}
	}
	return depends
}

// behind returns the nodes that depend on a node.
func behind(p api.Program, node int) []int {
	var list []int
	for k, on := range dependence(p) {
		if on[node] {
			list = append(list, k)
		}
	}
	return list
}

// idle returns the nodes on which no drive depends.
func idle(p api.Program) []int {
	var list []int
	depends := dependence(p)
	for i := range p.Nodes {
		isNeeded := func(d api.Drive) bool {
			from := index(p, d.From)
			return from >= 0 && (from == i || depends[from][i])
		}
		if !slices.ContainsFunc(p.Drives, isNeeded) {
			list = append(list, i)
		}
	}
	return list
}

func TestP25Definitions(t *testing.T) {
	source := rand.New(rand.NewSource(251))
	lengths := map[int]int{}
	for range 20000 {
		p := randomProgram(source, 1+source.Intn(5), 1+source.Intn(5))
		got, e := order.Of(p)
		want := leastOrder(p)
		if !slices.Equal(got, want) || (e == api.OK) != (want != nil) || e != api.OK && e != api.ErrCycle {
			t.Fatalf("Of %v: %v, %d, not %v", p, got, e, want)
		}
		got, e = order.Cycle(p)
		want = leastCycle(p)
		if !slices.Equal(got, want) || (e == api.OK) != (want != nil) || e != api.OK && e != api.ErrNone {
			t.Fatalf("Cycle of %v: %v, %d, not %v", p, got, e, want)
		}
		lengths[len(want)]++
		levels, e := order.Levels(p)
		if (e == api.ErrCycle) != (want != nil) {
			t.Fatalf("Levels of %v: %d", p, e)
		}
		for k, n := range levels {
			if n != level(p, k) {
				t.Fatalf("Levels of %v: %v", p, levels)
			}
		}
		fed, _ := order.Feeds(p)
		for k := range p.Nodes {
			for i := range p.Nodes {
				if slices.Contains(fed[k], i) != feeds(p, i, k) {
					t.Fatalf("Feeds of %v: %v", p, fed)
				}
			}
			if list, e := order.Behind(p, k); e != api.OK || !slices.Equal(list, behind(p, k)) {
				t.Fatalf("Behind %d of %v: %v, %d", k, p, list, e)
			}
		}
		if list, e := order.Idle(p); e != api.OK || !slices.Equal(list, idle(p)) {
			t.Fatalf("Idle of %v: %v, %d", p, list, e)
		}
	}
	for length := range 4 {
		if lengths[length] < 100 {
			t.Errorf("so few cycles with the length %d: %v", length, lengths)
		}
	}
}

func TestP25_2ValidDefinition(t *testing.T) {
	source := rand.New(rand.NewSource(252))
	found := 0
	for range 500 {
		p := randomProgram(source, 4, 2)
		for _, list := range lists(4, 4) {
			got := order.Valid(p, list)
			if got != isOrder(p, list) {
				t.Fatalf("Valid of %v and %v: %v", p, list, got)
			}
			if got {
				found++
			}
		}
		list := []int{source.Intn(6) - 1, source.Intn(5), source.Intn(4), source.Intn(4)}[:3+source.Intn(2)]
		if order.Valid(p, list) != isOrder(p, list) {
			t.Fatalf("Valid of %v and %v", p, list)
		}
	}
	if found < 1000 {
		t.Errorf("%d orders", found)
	}
}

// There is an order exactly if there is no cycle; neighbours of which the first one does not feed the second one can be exchanged; nodes sorted by level are an order; without its idle nodes a program is connected.
func TestP25_6Consequences(t *testing.T) {
	source := rand.New(rand.NewSource(253))
	exchanged := 0
	for range 400 {
		p := randomProgram(source, source.Intn(20)+1, 3)
		list, e := order.Of(p)
		if _, f := order.Cycle(p); (e == api.OK) != (f == api.ErrNone) {
			t.Fatalf("%v: an order %d, a cycle %d", p, e, f)
		}
		unused, _ := order.Idle(p)
		q := api.Program{Drives: p.Drives}
		for i, n := range p.Nodes {
			if !slices.Contains(unused, i) {
				q.Nodes = append(q.Nodes, n)
			}
		}
		if f := order.Check(q); f != api.OK {
			t.Fatalf("%v without %v: %d", p, unused, f)
		}
		if e != api.OK {
			continue
		}
		for at := 1; at < len(list); at++ {
			other := slices.Clone(list)
			other[at-1], other[at] = other[at], other[at-1]
			if order.Valid(p, other) == feeds(p, list[at-1], list[at]) {
				t.Fatalf("%v: %v after an exchange", p, other)
			}
			exchanged++
		}
		levels, _ := order.Levels(p)
		slices.SortFunc(list, func(a, b int) int { return levels[a] - levels[b] })
		if !order.Valid(p, list) {
			t.Fatalf("%v by level: %v", p, list)
		}
	}
	if exchanged < 1000 {
		t.Errorf("%d exchanges", exchanged)
	}
}

// Programs with many nodes and links take a short time.
func TestP25Large(t *testing.T) {
	chain, dense := many(api.MaxNodes), many(api.MaxNodes)
	for i := range dense.Nodes {
		for k := range i {
			dense.Nodes[k].Inputs = append(dense.Nodes[k].Inputs, api.Link{Node: dense.Nodes[i].Name}, api.Link{Node: dense.Nodes[k].Name, Delayed: true})
		}
		if i > 0 {
			chain.Nodes[i].Inputs = []api.Link{{Node: chain.Nodes[i-1].Name}}
		}
	}
	for _, p := range []api.Program{chain, dense} {
		list, e := order.Of(p)
		levels, _ := order.Levels(p)
		if e != api.OK || len(list) != api.MaxNodes || slices.Max(levels) != api.MaxNodes-1 {
			t.Fatalf("%v, %d, %v", list, e, levels)
		}
		if _, e := order.Cycle(p); e != api.ErrNone {
			t.Fatalf("Cycle: %d", e)
		}
	}
	chain.Nodes[0].Inputs = []api.Link{{Node: "n63"}}
	if list, e := order.Cycle(chain); e != api.OK || len(list) != api.MaxNodes || list[0] != 0 || list[63] != 63 {
		t.Fatalf("Cycle: %v, %d", list, e)
	}
	wide := many(2)
	for range 300000 {
		wide.Nodes[1].Inputs = append(wide.Nodes[1].Inputs, api.Link{Node: "n0"})
		wide.Drives = append(wide.Drives, api.Drive{From: api.Link{Node: "n1", Delayed: true}})
	}
	if list, e := order.Of(wide); e != api.OK || !slices.Equal(list, []int{0, 1}) {
		t.Fatalf("Of: %v, %d", list, e)
	}
	if list, e := order.Idle(wide); e != api.OK || len(list) != 0 {
		t.Fatalf("Idle: %v, %d", list, e)
	}
}
