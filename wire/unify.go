package wire

import "plenum/api"

// Limits of unification.
const (
	MaxVar   = 1000
	MaxPairs = 400
)

// Term is a type or a variable for one. Var is the number of the variable, from 1 on; if it is 0, the term is Type.
type Term struct {
	Var  int
	Type api.Type
}

// Binding is what a variable stands for.
type Binding struct {
	Var  int
	Term Term
}

// isPossible reports whether t is a variable or a type.
func isPossible(t Term) bool {
	if t.Var == 0 {
		return Check(t.Type) == api.OK
	}
	return t == Term{Var: t.Var} && 1 <= t.Var && t.Var <= MaxVar
}

// arePossible reports whether bindings are possible.
func arePossible(bindings []Binding) bool {
	var bound [MaxVar + 1]bool
	last := 0
	for _, b := range bindings {
		if b.Var <= last || b.Var > MaxVar || !isPossible(b.Term) {
			return false
		}
		// A lesser variable that is bound has its binding before this one.
		if b.Term.Var >= b.Var || bound[b.Term.Var] {
			return false
		}
		bound[b.Var], last = true, b.Var
	}
	return true
}

// parents has for each variable a term that is equal to it: a lesser variable, or a type; or the zero Term, where there is none.
type parents [MaxVar + 1]Term

// root returns what a term is: a type, or the least of the variables that are equal to it.
func (p *parents) root(t Term) Term {
	for t.Var != 0 && p[t.Var] != (Term{}) {
		t = p[t.Var]
	}
	return t
}

// join makes two terms equal, and reports whether this is possible.
func (p *parents) join(a, b Term) bool {
	a, b = p.root(a), p.root(b)
	if a.Var < b.Var {
		a, b = b, a
	}
	switch {
	case a == b:
		return true
	case a.Var == 0: // two types
		return false
	}
	p[a.Var] = b
	return true
}

// bindings returns the bindings under which all terms that were joined are equal.
func (p *parents) bindings() []Binding {
	var list []Binding
	for v := 1; v <= MaxVar; v++ {
		variable := Term{Var: v}
		if t := p.root(variable); t != variable {
			list = append(list, Binding{Var: v, Term: t})
		}
	}
	return list
}

// Resolve returns what a term is under bindings.
func Resolve(bindings []Binding, t Term) (Term, api.Errno) {
	if !arePossible(bindings) || !isPossible(t) {
		return Term{}, api.ErrInvalid
	}
	for _, b := range bindings {
		if b.Var == t.Var {
			return b.Term, api.OK
		}
	}
	return t, api.OK
}

// Unify returns the bindings under which, besides, two terms are equal.
func Unify(bindings []Binding, a, b Term) ([]Binding, api.Errno) {
	if !arePossible(bindings) || !isPossible(a) || !isPossible(b) {
		return nil, api.ErrInvalid
	}
	p := &parents{}
	for _, x := range bindings {
		p[x.Var] = x.Term
	}
	if !p.join(a, b) {
		return nil, api.ErrType
	}
	return p.bindings(), api.OK
}

// Solve returns the bindings under which the terms of each pair are equal, and the number of pairs for which this is possible, from the first one on.
func Solve(pairs [][2]Term) ([]Binding, int, api.Errno) {
	if len(pairs) > MaxPairs {
		return nil, 0, api.ErrTooMany
	}
	for _, pair := range pairs {
		if !isPossible(pair[0]) || !isPossible(pair[1]) {
			return nil, 0, api.ErrInvalid
		}
	}
	p := &parents{}
	for i, pair := range pairs {
		if !p.join(pair[0], pair[1]) {
			return nil, i, api.ErrType
		}
	}
	return p.bindings(), len(pairs), api.OK
}
