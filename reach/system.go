package reach

import (
	"plenum/api"
	"plenum/block"
	"plenum/interp"
	"plenum/order"
)

// scan is an abstract scan: the bits of the state before it, its choices, and what is known already of the wires and of the bits behind it.
type scan struct {
	before, choices, after uint64
	wires                  values
}

// has reports whether a bit of the state before the scan is on.
func (x *scan) has(bit int) bool { return x.before>>bit&1 == 1 }

// keep sets a bit of the state behind the scan, which is off until then.
func (x *scan) keep(bit int, on bool) {
	if on {
		x.after |= 1 << bit
	}
}

// signal is a value in a scan.
type signal func(x *scan) bool

// system is the binary part of a program.
type system struct {
	wires      []Wire
	free, bits int
	start      uint64            // the state at first
	nodes      []func(x *scan)   // the evaluations of the wires, in an order of their nodes
	delayed    []func(x *scan)   // those of the bits of delayed links, when all wires are known
	places     map[string]int    // of the wires, by their nodes
	points     map[string]signal // the choices for the points from which links come
}

// newSystem returns the system of a program that can run, or the first error.
func newSystem(p api.Program) (*system, api.Errno) {
	if _, e := interp.Start(p); e != api.OK {
		return nil, e
	}
	s := &system{places: map[string]int{}, points: map[string]signal{}}
	for _, n := range p.Nodes {
		if d, _ := block.Find(n.Block); d.Outputs[0].Type == "binary" {
			s.places[n.Name] = len(s.wires)
			s.wires = append(s.wires, Wire{Node: n.Name})
		}
	}
	list, _ := order.Of(p) // a program that can run has one
	for _, i := range list {
		s.add(p.Nodes[i])
	}
	return s, api.OK
}

// newBounded returns the system of a program, or the first error, also if it is too large to be explored.
func newBounded(p api.Program) (*system, api.Errno) {
	s, e := newSystem(p)
	if e != api.OK {
		return nil, e
	}
	if s.free > MaxFree || s.bits > MaxBits {
		return nil, api.ErrTooMany
	}
	return s, api.OK
}

// add adds the evaluation of a node, if its output is a binary wire.
func (s *system) add(n api.Node) {
	place, isWire := s.places[n.Name]
	if !isWire {
		return
	}
	output := s.output(n)
	s.nodes = append(s.nodes, func(x *scan) {
		if output(x) {
			x.wires |= bitOf(place)
		}
	})
}

// output returns the output of a node.
func (s *system) output(n api.Node) signal {
	newGate, isExact := s.gates()[n.Block]
	if !isExact {
		return s.newChoice()
	}
	var in []signal
	for _, l := range n.Inputs {
		in = append(in, s.link(l))
	}
	return newGate(in)
}

// link returns the value of a link.
func (s *system) link(l api.Link) signal {
	present := s.present(l)
	if !l.Delayed {
		return present
	}
	bit := s.newBit(l.Initial.N == 1)
	s.delayed = append(s.delayed, func(x *scan) { x.keep(bit, present(x)) })
	return func(x *scan) bool { return x.has(bit) }
}

// present returns the present value of a link.
func (s *system) present(l api.Link) signal {
	if l.Node != "" {
		place, isWire := s.places[l.Node]
		if !isWire {
			return s.newChoice()
		}
		return func(x *scan) bool { return x.wires.isOn(place) }
	}
	if l.Point != "" {
		if _, known := s.points[l.Point]; !known {
			s.points[l.Point] = s.newChoice()
		}
		return s.points[l.Point]
	}
	return func(*scan) bool { return l.Const.N == 1 }
}

// newChoice adds a free choice and returns it.
func (s *system) newChoice() signal {
	number := s.free
	s.free++
	return func(x *scan) bool { return x.choices>>number&1 == 1 }
}

// newBit adds a bit to the state and returns its number.
func (s *system) newBit(isOnAtFirst bool) int {
	bit := s.bits
	s.bits++
	if isOnAtFirst {
		s.start |= 1 << bit
	}
	return bit
}
