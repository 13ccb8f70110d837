package wire_test

import (
	"math"
	"math/rand"
	"slices"
	"testing"

	"plenum/api"
	"plenum/wire"
)

// variable and constant make terms, and bind a binding.
func variable(n int) wire.Term                { return wire.Term{Var: n} }
func constant(t api.Type) wire.Term           { return wire.Term{Type: t} }
func bind(n int, term wire.Term) wire.Binding { return wire.Binding{Var: n, Term: term} }

// on, kelvin and three are terms that are types.
func on() wire.Term     { return constant(binary()) }
func kelvin() wire.Term { return constant(analog("K")) }
func three() wire.Term  { return constant(multi(3)) }

// what is what a term is under bindings, as the document says it.
func what(list []wire.Binding, t wire.Term) wire.Term {
	for _, b := range list {
		if t.Var != 0 && b.Var == t.Var {
			return b.Term
		}
	}
	return t
}

// badTerms are what is no term.
func badTerms() []wire.Term {
	list := []wire.Term{
		{Var: -1}, {Var: wire.MaxVar + 1}, {Var: math.MinInt}, {Var: math.MaxInt}, {Var: 1, Type: binary()}, {Var: 1000, Type: api.Type{States: 1}}, {Var: 5, Type: api.Type{Unit: "K"}}, {Var: 5, Type: api.Type{Kind: 4}},
	}
	for _, c := range badTypes() {
		list = append(list, constant(c.t))
	}
	return list
}

// badBindings are bindings that are not possible.
func badBindings() [][]wire.Binding {
	list := [][]wire.Binding{
		{bind(0, on())}, {bind(-1, on())}, {bind(1001, on())}, {bind(math.MinInt, on())}, {bind(math.MaxInt, on())},
		{bind(1, variable(2))}, {bind(2, variable(2))}, {bind(1, variable(1))}, {bind(999, variable(1000))},
		{bind(1, on()), bind(1, on())}, {bind(2, variable(1)), bind(2, variable(1))}, {bind(2, on()), bind(1, on())}, {bind(3, variable(2)), bind(2, on())},
		{bind(2, on()), bind(3, variable(2))}, {bind(2, variable(1)), bind(3, variable(2))}, {bind(1, on()), bind(2, on()), bind(3, variable(1))}, {bind(2, variable(1)), bind(3, on()), bind(4, variable(1)), bind(1000, variable(3))},
		{bind(1, on()), bind(1001, on())}, {bind(0, on()), bind(1, on())},
	}
	for _, t := range badTerms() {
		list = append(list, []wire.Binding{bind(7, t)}, []wire.Binding{bind(2, variable(1)), bind(1000, t)})
	}
	return list
}

func TestP17_4Resolve(t *testing.T) {
	list := []wire.Binding{bind(2, variable(1)), bind(3, on()), bind(5, variable(4)), bind(6, kelvin()), bind(1000, variable(999))}
	for v := 1; v <= wire.MaxVar; v++ {
		want := variable(v)
		switch v {
		case 2, 5, 1000:
			want = variable(v - 1)
		case 3:
			want = on()
		case 6:
			want = kelvin()
		}
		if x, e := wire.Resolve(list, variable(v)); x != want || e != api.OK {
			t.Errorf("Resolve of %d: %v, %d", v, x, e)
		}
		if x, e := wire.Resolve(nil, variable(v)); x != variable(v) || e != api.OK {
			t.Errorf("Resolve of %d without bindings: %v, %d", v, x, e)
		}
	}
	for text, x := range texts() {
		if got, e := wire.Resolve(list, constant(x)); got != constant(x) || e != api.OK {
			t.Errorf("Resolve of %s: %v, %d", text, got, e)
		}
	}
	for _, x := range badTerms() {
		if got, e := wire.Resolve(list, x); got != (wire.Term{}) || e != api.ErrInvalid {
			t.Errorf("Resolve of %v: %v, %d", x, got, e)
		}
	}
	for _, bad := range badBindings() {
		for _, x := range append(badTerms(), variable(1), variable(7), on()) {
			if got, e := wire.Resolve(bad, x); got != (wire.Term{}) || e != api.ErrInvalid {
				t.Errorf("Resolve under %v: %v, %d", bad, got, e)
			}
		}
	}
}

func TestP17_4Unify(t *testing.T) {
	v := variable
	for i, c := range []struct {
		list []wire.Binding
		a, b wire.Term
		want []wire.Binding
		e    api.Errno
	}{
		{nil, v(1), v(1), nil, api.OK}, {nil, v(1), v(2), []wire.Binding{bind(2, v(1))}, api.OK}, {nil, v(1), on(), []wire.Binding{bind(1, on())}, api.OK}, {nil, on(), on(), nil, api.OK}, {nil, on(), kelvin(), nil, api.ErrType}, {nil, kelvin(), constant(analog("degC")), nil, api.ErrType}, {nil, three(), constant(multi(4)), nil, api.ErrType},
		{[]wire.Binding{bind(2, v(1))}, v(2), on(), []wire.Binding{bind(1, on()), bind(2, on())}, api.OK},
		{[]wire.Binding{bind(2, v(1))}, v(2), v(1), []wire.Binding{bind(2, v(1))}, api.OK}, {[]wire.Binding{bind(2, v(1))}, v(2), v(3), []wire.Binding{bind(2, v(1)), bind(3, v(1))}, api.OK},
		// The least variable of a class is bound to one that is less.
		{[]wire.Binding{bind(3, v(2)), bind(4, v(2))}, v(4), v(1), []wire.Binding{bind(2, v(1)), bind(3, v(1)), bind(4, v(1))}, api.OK},
		{[]wire.Binding{bind(3, v(1)), bind(4, v(2))}, v(3), v(4), []wire.Binding{bind(2, v(1)), bind(3, v(1)), bind(4, v(1))}, api.OK},
		{[]wire.Binding{bind(3, v(1)), bind(4, on())}, v(4), v(3), []wire.Binding{bind(1, on()), bind(3, on()), bind(4, on())}, api.OK},
		{[]wire.Binding{bind(1, on()), bind(4, on())}, v(4), v(1), []wire.Binding{bind(1, on()), bind(4, on())}, api.OK}, {[]wire.Binding{bind(1, on()), bind(4, kelvin())}, v(4), v(1), nil, api.ErrType}, {[]wire.Binding{bind(1, on()), bind(4, kelvin())}, v(4), on(), nil, api.ErrType}, {[]wire.Binding{bind(1, on())}, v(1), on(), []wire.Binding{bind(1, on())}, api.OK},
		{[]wire.Binding{bind(1, on())}, kelvin(), three(), nil, api.ErrType}, {[]wire.Binding{bind(1, on())}, v(1000), v(999), []wire.Binding{bind(1, on()), bind(1000, v(999))}, api.OK},
	} {
		for _, pair := range [][2]wire.Term{{c.a, c.b}, {c.b, c.a}} {
			given := slices.Clone(c.list)
			got, e := wire.Unify(given, pair[0], pair[1])
			if !slices.Equal(got, c.want) || e != c.e {
				t.Errorf("Unify %d: %v, %d, not %v, %d", i, got, e, c.want, c.e)
			}
			for k := range got {
				got[k] = wire.Binding{}
			}
			if !slices.Equal(given, c.list) {
				t.Errorf("Unify %d has changed the bindings", i)
			}
		}
	}
}

func TestP17_4Errors(t *testing.T) {
	for _, bad := range badBindings() {
		for _, pair := range [][2]wire.Term{{variable(1), variable(1)}, {on(), on()}, {on(), kelvin()}} {
			if got, e := wire.Unify(bad, pair[0], pair[1]); len(got) != 0 || e != api.ErrInvalid {
				t.Errorf("Unify under %v: %v, %d", bad, got, e)
			}
		}
	}
	list := []wire.Binding{bind(1, on())}
	for _, bad := range badTerms() {
		for _, good := range []wire.Term{bad, variable(1), variable(2), kelvin()} {
			if got, e := wire.Unify(list, bad, good); len(got) != 0 || e != api.ErrInvalid {
				t.Errorf("Unify of %v and %v: %v, %d", bad, good, got, e)
			}
			if got, e := wire.Unify(list, good, bad); len(got) != 0 || e != api.ErrInvalid {
				t.Errorf("Unify of %v and %v: %v, %d", good, bad, got, e)
			}
		}
	}
}

func TestP17_4Large(t *testing.T) {
	var list, want []wire.Binding
	for n := 1; n <= wire.MaxVar; n++ {
		if n > 1 {
			list = append(list, bind(n, variable(1)))
		}
		want = append(want, bind(n, three()))
	}
	if got, e := wire.Unify(list, variable(1000), three()); !slices.Equal(got, want) || e != api.OK {
		t.Errorf("Unify of all variables with a type: %d bindings, %d", len(got), e)
	}
	if got, e := wire.Unify(want, variable(1000), variable(1)); !slices.Equal(got, want) || e != api.OK {
		t.Errorf("Unify of variables of one type: %d bindings, %d", len(got), e)
	}
	if got, e := wire.Unify(want, variable(1000), on()); len(got) != 0 || e != api.ErrType {
		t.Errorf("Unify of a variable with another type: %d bindings, %d", len(got), e)
	}
	if got, e := wire.Unify(append(want, bind(1000, on())), variable(1), three()); len(got) != 0 || e != api.ErrInvalid {
		t.Errorf("Unify under too many bindings: %d bindings, %d", len(got), e)
	}
}

func TestP17_5Limits(t *testing.T) {
	if wire.MaxVar != 1000 || wire.MaxPairs != 400 {
		t.Errorf("limits: %d, %d", wire.MaxVar, wire.MaxPairs)
	}
}

func TestP17_5Solve(t *testing.T) {
	v := variable
	pairs := [][2]wire.Term{{v(3), v(1)}, {v(2), v(3)}, {v(1), on()}, {v(2), kelvin()}}
	for n, want := range [][]wire.Binding{nil, {bind(3, v(1))}, {bind(2, v(1)), bind(3, v(1))}, {bind(1, on()), bind(2, on()), bind(3, on())}} {
		if got, count, e := wire.Solve(pairs[:n]); !slices.Equal(got, want) || count != n || e != api.OK {
			t.Errorf("Solve of %d pairs: %v, %d, %d", n, got, count, e)
		}
	}
	for i, c := range []struct {
		pairs [][2]wire.Term
		want  int
	}{
		{pairs, 3}, {[][2]wire.Term{{on(), kelvin()}}, 0}, {[][2]wire.Term{{on(), on()}, {kelvin(), on()}, {on(), on()}}, 1}, {[][2]wire.Term{{v(1), on()}, {v(1), kelvin()}, {v(1), three()}}, 1}, {[][2]wire.Term{{v(1), on()}, {v(2), kelvin()}, {v(3), v(4)}, {v(4), v(2)}, {v(3), v(1)}}, 4},
		{append(slices.Repeat([][2]wire.Term{{v(1000), on()}}, wire.MaxPairs-1), [2]wire.Term{three(), v(1000)}), wire.MaxPairs - 1},
	} {
		if got, count, e := wire.Solve(c.pairs); len(got) != 0 || count != c.want || e != api.ErrType {
			t.Errorf("Solve %d: %v, %d, %d, not %d", i, got, count, e, c.want)
		}
	}
}

func TestP17_5Errors(t *testing.T) {
	good := [2]wire.Term{variable(1), on()}
	for _, bad := range badTerms() {
		for _, pairs := range [][][2]wire.Term{{{bad, on()}}, {{on(), bad}}, {{bad, bad}}, {good, {variable(2), bad}}, {good, {bad, variable(1)}, good}, {good, {variable(1), kelvin()}, {variable(2), bad}}, append(slices.Repeat([][2]wire.Term{good}, wire.MaxPairs-1), [2]wire.Term{bad, on()})} {
			if got, count, e := wire.Solve(pairs); len(got) != 0 || count != 0 || e != api.ErrInvalid {
				t.Errorf("Solve with %v: %v, %d, %d", bad, got, count, e)
			}
		}
	}
	for _, pair := range [][2]wire.Term{good, {on(), kelvin()}, {}, {variable(-1), on()}} {
		if got, count, e := wire.Solve(slices.Repeat([][2]wire.Term{pair}, wire.MaxPairs+1)); len(got) != 0 || count != 0 || e != api.ErrTooMany {
			t.Errorf("Solve of too many pairs: %v, %d, %d", got, count, e)
		}
	}
	if got, count, e := wire.Solve(slices.Repeat([][2]wire.Term{good}, wire.MaxPairs)); !slices.Equal(got, []wire.Binding{bind(1, on())}) || count != wire.MaxPairs || e != api.OK {
		t.Errorf("Solve of as many pairs as there may be: %v, %d, %d", got, count, e)
	}
}

func TestP17_5Chain(t *testing.T) {
	// The pairs join the variables from the greatest one on, so that the least one changes each time.
	var pairs [][2]wire.Term
	var want []wire.Binding
	for n := range wire.MaxPairs {
		pairs = append(pairs, [2]wire.Term{variable(wire.MaxVar - n), variable(wire.MaxVar - n - 1)})
		want = append(want, bind(wire.MaxVar-wire.MaxPairs+n+1, variable(wire.MaxVar-wire.MaxPairs)))
	}
	if got, count, e := wire.Solve(pairs); !slices.Equal(got, want) || count != wire.MaxPairs || e != api.OK {
		t.Errorf("Solve of a chain: %v, %d, %d", got, count, e)
	}
}

// small is the number of variables of random pairs.
const small = 4

// smallBindings are all possible bindings of few variables to some types and to each other.
func smallBindings() [][]wire.Binding {
	lists := [][]wire.Binding{nil}
	for n := 1; n <= small; n++ {
		for _, list := range lists {
			choices := []wire.Term{on(), kelvin()}
			for k := 1; k < n; k++ {
				if what(list, variable(k)) == variable(k) {
					choices = append(choices, variable(k))
				}
			}
			for _, x := range choices {
				lists = append(lists, append(slices.Clone(list), bind(n, x)))
			}
		}
	}
	return lists
}

// areEqual reports whether the terms of each pair are equal under bindings.
func areEqual(list []wire.Binding, pairs [][2]wire.Term) bool {
	return !slices.ContainsFunc(pairs, func(p [2]wire.Term) bool { return what(list, p[0]) != what(list, p[1]) })
}

// fewest returns the shortest ones of all bindings under which the terms of each pair are equal.
func fewest(all [][]wire.Binding, pairs [][2]wire.Term) [][]wire.Binding {
	var best [][]wire.Binding
	for _, list := range all {
		switch {
		case !areEqual(list, pairs) || len(best) > 0 && len(list) > len(best[0]):
		case len(best) > 0 && len(list) == len(best[0]):
			best = append(best, list)
		default:
			best = [][]wire.Binding{list}
		}
	}
	return best
}

// randomPairs makes pairs of few variables and types.
func randomPairs(r *rand.Rand) [][2]wire.Term {
	term := func() wire.Term {
		switch n := r.Intn(small + 3); {
		case n < small:
			return variable(n + 1)
		case n == small:
			return kelvin()
		}
		return on()
	}
	var pairs [][2]wire.Term
	for range r.Intn(6) {
		pairs = append(pairs, [2]wire.Term{term(), term()})
	}
	return pairs
}

func TestP17_5Definition(t *testing.T) {
	r := rand.New(rand.NewSource(3))
	all := smallBindings()
	for range 4000 {
		pairs := randomPairs(r)
		possible := len(pairs)
		for len(fewest(all, pairs[:possible])) == 0 {
			possible--
		}
		got, count, e := wire.Solve(pairs)
		if possible < len(pairs) {
			if len(got) != 0 || count != possible || e != api.ErrType {
				t.Fatalf("Solve of %v: %v, %d, %d, not %d", pairs, got, count, e, possible)
			}
			continue
		}
		best := fewest(all, pairs)
		if len(best) != 1 || !slices.Equal(got, best[0]) || count != len(pairs) || e != api.OK {
			t.Fatalf("Solve of %v: %v, %d, %d, not %v", pairs, got, count, e, best)
		}
	}
}

func TestP17_4Definition(t *testing.T) {
	r := rand.New(rand.NewSource(4))
	all := smallBindings()
	for range 2000 {
		list := all[r.Intn(len(all))]
		var pairs [][2]wire.Term
		for _, b := range list {
			pairs = append(pairs, [2]wire.Term{variable(b.Var), b.Term})
		}
		added := randomPairs(r)
		if len(added) == 0 {
			continue
		}
		best := fewest(all, append(pairs, added[0]))
		got, e := wire.Unify(list, added[0][0], added[0][1])
		if len(best) == 0 {
			if len(got) != 0 || e != api.ErrType {
				t.Fatalf("Unify of %v under %v: %v, %d", added[0], list, got, e)
			}
		} else if !slices.Equal(got, best[0]) || e != api.OK {
			t.Fatalf("Unify of %v under %v: %v, %d, not %v", added[0], list, got, e, best)
		}
	}
}

// isGeneral reports whether every solution of pairs makes each bound variable equal to its term.
func isGeneral(list []wire.Binding, pairs [][2]wire.Term) bool {
	types := []wire.Term{on(), kelvin(), three()}
	for n := range 3 * 3 * 3 * 3 {
		var solution []wire.Binding
		for v, rest := 1, n; v <= small; v, rest = v+1, rest/3 {
			solution = append(solution, bind(v, types[rest%3]))
		}
		if !areEqual(solution, pairs) {
			continue
		}
		for _, b := range list {
			if what(solution, variable(b.Var)) != what(solution, b.Term) {
				return false
			}
		}
	}
	return true
}

func TestP17_6(t *testing.T) {
	r := rand.New(rand.NewSource(5))
	for range 4000 {
		pairs := randomPairs(r)
		list, _, e := wire.Solve(pairs)
		other := slices.Clone(pairs)
		r.Shuffle(len(other), func(i, k int) { other[i], other[k] = other[k], other[i] })
		for i := range other {
			if r.Intn(2) == 0 {
				slices.Reverse(other[i][:])
			}
		}
		if again, _, f := wire.Solve(other); !slices.Equal(again, list) || f != e {
			t.Fatalf("Solve of %v: %v, but of %v: %v", pairs, list, other, again)
		}
		if e != api.OK {
			continue
		}
		if !isGeneral(list, pairs) {
			t.Fatalf("Solve of %v: %v, which a solution contradicts", pairs, list)
		}
		for _, p := range pairs {
			a, e := wire.Resolve(list, p[0])
			b, f := wire.Resolve(list, p[1])
			again, g := wire.Resolve(list, a)
			if a != b || again != a || e != api.OK || f != api.OK || g != api.OK {
				t.Fatalf("Resolve of %v under %v: %v, %v, %v", p, list, a, b, again)
			}
		}
		// Unifying pair by pair gives the same.
		var step []wire.Binding
		for _, p := range pairs {
			step, _ = wire.Unify(step, p[0], p[1])
		}
		if !slices.Equal(step, list) {
			t.Fatalf("Unify of %v, one by one: %v, not %v", pairs, step, list)
		}
	}
}
