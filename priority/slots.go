package priority

import (
	"cmp"

	"plenum/api"
)

// slots has the greatest write of each level, from level 1 on; one with Seq 0 stands for none, and is less than all possible ones.
type slots [api.Levels]api.Write

// slotsOf returns the greatest writes of a list.
func slotsOf(list []api.Write) slots {
	s := slots{}
	s.add(list)
	return s
}

// add adds the possible writes of a list.
func (s *slots) add(list []api.Write) {
	for _, w := range list {
		if Check(w) == api.OK && compare(w, s[w.Level-1]) > 0 {
			s[w.Level-1] = w
		}
	}
}

// compare returns 1 if a write comes after another one of its level, -1 if it comes before it.
func compare(a, b api.Write) int {
	return cmp.Or(cmp.Compare(a.Seq, b.Seq), cmp.Compare(a.Value.Kind, b.Value.Kind), cmp.Compare(a.Value.N, b.Value.N))
}

// writes returns the writes by levels.
func (s slots) writes() []api.Write {
	var list []api.Write
	for _, w := range s {
		if w.Seq != 0 {
			list = append(list, w)
		}
	}
	return list
}

// under returns the least occupied level that is greater than a level, with its value, or 17 and the default.
func (s slots) under(level int, otherwise api.Value) (int, api.Value) {
	for i := level; i < len(s); i++ {
		if s[i].Value.Kind != api.Null {
			return i + 1, s[i].Value
		}
	}
	return api.Levels + 1, otherwise
}
