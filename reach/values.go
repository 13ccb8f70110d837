package reach

// values are the values of the binary wires in a step. The first wire has the highest bit, so that steps are compared as numbers are. There are no more wires than bits, because a program that can run has at most api.MaxNodes nodes.
type values uint64

// bitOf returns the values in which only one wire is on.
func bitOf(wire int) values { return 1 << (63 - wire) }

// isOn reports whether a wire is on.
func (v values) isOn(wire int) bool { return v&bitOf(wire) != 0 }

// step returns the values of so many wires as a step.
func (v values) step(count int) Step {
	s := make(Step, count)
	for i := range s {
		s[i] = v.isOn(i)
	}
	return s
}

// valuesOf returns the values of a step that has not too many wires.
func valuesOf(s Step) values {
	var v values
	for i, on := range s {
		if on {
			v |= bitOf(i)
		}
	}
	return v
}
