package reach

import "slices"

// gates returns, by their names, the blocks that are examined exactly, as functions that add what a node needs and return its output for the values of its links.
func (s *system) gates() map[string]func(in []signal) signal {
	return map[string]func(in []signal) signal{
		"and": func(in []signal) signal {
			return func(x *scan) bool {
				return !slices.ContainsFunc(in, func(value signal) bool { return !value(x) })
			}
		},
		"or": func(in []signal) signal {
			return func(x *scan) bool {
				return slices.ContainsFunc(in, func(value signal) bool { return value(x) })
			}
		},
		"not": func(in []signal) signal {
			return func(x *scan) bool { return !in[0](x) }
		},
		"xor": func(in []signal) signal {
			return func(x *scan) bool { return in[0](x) != in[1](x) }
		},
		"latch":    s.latch,
		"edge":     s.edge,
		"ondelay":  s.ondelay,
		"offdelay": s.offdelay,
	}
}

// latch adds a latch with the links set and reset.
func (s *system) latch(in []signal) signal {
	bit := s.newBit(false)
	return func(x *scan) bool {
		on := !in[1](x) && (in[0](x) || x.has(bit))
		x.keep(bit, on)
		return on
	}
}

// edge adds a node that is on if its link becomes on.
func (s *system) edge(in []signal) signal {
	bit := s.newBit(false)
	return func(x *scan) bool {
		on := in[0](x)
		x.keep(bit, on)
		return on && !x.has(bit)
	}
}

// ondelay adds a node that may be on while its link is.
func (s *system) ondelay(in []signal) signal {
	choice := s.newChoice()
	return func(x *scan) bool { return in[0](x) && choice(x) }
}

// offdelay adds a node that is on while its link is, and may be on at other times.
func (s *system) offdelay(in []signal) signal {
	choice := s.newChoice()
	return func(x *scan) bool { return in[0](x) || choice(x) }
}
