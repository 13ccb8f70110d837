package reach

import (
	"cmp"
	"slices"
)

// move is what an abstract scan does: the values of the wires, and the state behind it.
type move struct {
	wires values
	after uint64
}

// scan returns what an abstract scan from a state does, for choices.
func (s *system) scan(state, choices uint64) move {
	x := &scan{before: state, choices: choices}
	for _, evaluate := range s.nodes {
		evaluate(x)
	}
	for _, evaluate := range s.delayed {
		evaluate(x)
	}
	return move{x.wires, x.after}
}

// moves returns the moves from some states, sorted by the values of the wires, each once.
func (s *system) moves(states ...uint64) []move {
	var list []move
	for _, state := range states {
		for choices := range uint64(1) << s.free {
			list = append(list, s.scan(state, choices))
		}
	}
	slices.SortFunc(list, func(a, b move) int {
		return cmp.Or(cmp.Compare(a.wires, b.wires), cmp.Compare(a.after, b.after))
	})
	return slices.Compact(list)
}

// class is a run, and the states behind it that neither a shorter run nor a lesser one of its length reaches.
type class struct {
	run    []values
	states []uint64
}

// explore visits the states that are reached, in the order of their shortest and then least runs, up to a step that is wanted. It returns the least of the shortest runs to such a step, or nothing, and the number of states that were reached.
func (s *system) explore(isWanted func(v values) bool) ([]values, int) {
	reached := map[uint64]bool{s.start: true}
	queue := []class{{states: []uint64{s.start}}}
	for len(queue) > 0 {
		from := queue[0]
		queue = queue[1:]
		for _, m := range s.moves(from.states...) {
			if isWanted(m.wires) {
				return append(from.run, m.wires), len(reached)
			}
			if reached[m.after] {
				continue
			}
			reached[m.after] = true
			queue = added(queue, from.run, m)
		}
	}
	return nil, len(reached)
}

// added returns a queue with the state behind a move: in the last class, if this has the same run, or in a new one. The moves from a class come in the order of their values, so none of an earlier run follows.
func added(queue []class, run []values, m move) []class {
	longer := append(slices.Clone(run), m.wires)
	if last := len(queue) - 1; last >= 0 && slices.Equal(queue[last].run, longer) {
		queue[last].states = append(queue[last].states, m.after)
		return queue
	}
	return append(queue, class{longer, []uint64{m.after}})
}

// canRun reports whether steps are those of abstract scans, one after the other, from the state at first.
func (s *system) canRun(run []Step) bool {
	behind := s.behind()
	states := []uint64{s.start}
	for _, step := range run {
		if len(step) != len(s.wires) {
			return false
		}
		isNext := make([]bool, 1<<s.bits)
		for _, state := range states {
			for _, after := range behind(state, valuesOf(step)) {
				isNext[after] = true
			}
		}
		states = nil
		for state, is := range isNext {
			if is {
				states = append(states, uint64(state))
			}
		}
	}
	return len(states) > 0
}

// behind returns a function that tells the states behind the moves from a state with some values of the wires. It finds the moves from each state once.
func (s *system) behind() func(state uint64, v values) []uint64 {
	known := map[uint64]map[values][]uint64{}
	return func(state uint64, v values) []uint64 {
		if known[state] == nil {
			known[state] = map[values][]uint64{}
			for _, m := range s.moves(state) {
				known[state][m.wires] = append(known[state][m.wires], m.after)
			}
		}
		return known[state][v]
	}
}
