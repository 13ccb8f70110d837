package machine

import "slices"

// registers is a set of registers, with a bit for each of them.
type registers [MaxRegs / wordBits]uint64

// wordBits is how many registers a word of a set has.
const wordBits = 64

func (s registers) has(r int) bool { return s[r/wordBits]>>(r%wordBits)&1 == 1 }

// with returns the set with more registers.
func (s registers) with(list []int) registers {
	for _, r := range list {
		s[r/wordBits] |= 1 << (r % wordBits)
	}
	return s
}

// common returns the registers that are in both sets.
func (s registers) common(t registers) registers {
	for i := range s {
		s[i] &= t[i]
	}
	return s
}

// used returns the registers that an instruction reads, and those that it writes.
func (v *verified) used(at int) (reads, writes []int) {
	in := v.Instrs[at]
	if in.Op == OpCall {
		x := v.calls[in.N]
		return x.In, x.Out
	}
	return operands(in)
}

// nexts returns what can follow an instruction.
func (v *verified) nexts(at int) []int {
	in := v.Instrs[at]
	switch in.Op {
	case OpBranch:
		return []int{at + 1, int(in.N)}
	case OpJump:
		return []int{int(in.N)}
	}
	return []int{at + 1}
}

// trace marks what can be reached, and reports whether all registers that are read there are written on every way. All ways to an instruction come from instructions before it, so one pass finds them.
func (v *verified) trace() bool {
	v.isReached = make([]bool, len(v.Instrs)+1)
	v.isReached[0] = true
	written := make([]registers, len(v.Instrs)+1)
	for at := range v.Instrs {
		if !v.isReached[at] {
			continue
		}
		reads, writes := v.used(at)
		if slices.ContainsFunc(reads, func(r int) bool { return !written[at].has(r) }) {
			return false
		}
		after := written[at].with(writes)
		for _, next := range v.nexts(at) {
			if v.isReached[next] {
				written[next] = written[next].common(after)
			} else {
				v.isReached[next], written[next] = true, after
			}
		}
	}
	return true
}

// steps returns the length of the longest way to the end.
func (v *verified) steps() int {
	longest := make([]int, len(v.Instrs)+1)
	for at := len(v.Instrs) - 1; at >= 0; at-- {
		for _, next := range v.nexts(at) {
			longest[at] = max(longest[at], longest[next]+1)
		}
	}
	return longest[0]
}
