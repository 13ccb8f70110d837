package links_test

import (
	"math"
	"strings"
	"testing"

	"plenum/api"
	"plenum/links"
)

// constant is a constant, and other values are none.
func constant() api.Value { return api.Value{Kind: api.Analog, N: 5} }

func TestIsConstant(t *testing.T) {
	for kind, ends := range map[int][2]int64{api.Analog: {-api.MaxAnalog, api.MaxAnalog}, api.Binary: {0, 1}, api.Multi: {1, api.MaxStates}} {
		for n, want := range map[int64]bool{ends[0]: true, ends[1]: true, ends[0] - 1: false, ends[1] + 1: false, math.MinInt64: false, math.MaxInt64: false} {
			if got := links.IsConstant(api.Value{Kind: kind, N: n}); got != want {
				t.Errorf("IsConstant of the kind %d and %d: %v", kind, n, got)
			}
		}
	}
	for _, kind := range []int{api.Null, -1, 4, math.MaxInt} {
		for _, n := range []int64{0, 1} {
			if links.IsConstant(api.Value{Kind: kind, N: n}) {
				t.Errorf("IsConstant of the kind %d", kind)
			}
		}
	}
}

func TestIsFormed(t *testing.T) {
	for i, l := range []api.Link{
		{Node: "a"}, {Point: "a"}, {Const: constant()}, {Node: strings.Repeat("a", 24)}, {Point: "a_9"},
		{Node: "a", Delayed: true, Initial: constant()}, {Point: "a", Delayed: true, Initial: api.Value{Kind: api.Binary}}, {Const: constant(), Delayed: true, Initial: api.Value{Kind: api.Multi, N: 16}},
	} {
		if !links.IsFormed(l) {
			t.Errorf("%d: %v is not formed", i, l)
		}
		if links.FromConstant(l) != (l.Const == constant()) {
			t.Errorf("%d: FromConstant of %v", i, l)
		}
	}
	for i, l := range []api.Link{
		{}, {Node: "a", Point: "b"}, {Node: "A"}, {Point: "A"}, {Node: "a", Point: "B"}, {Node: "A", Point: "b"}, {Node: "a/b"}, {Point: "a/b"}, {Node: strings.Repeat("a", 25)}, {Point: "\xff"},
		{Node: "a", Const: constant()}, {Point: "a", Const: constant()}, {Node: "a", Const: api.Value{N: 1}}, {Point: "a", Const: api.Value{N: -1}}, {Const: api.Value{N: 5}}, {Const: api.Value{Kind: api.Multi}}, {Const: api.Value{Kind: api.Binary, N: 2}},
		{Node: "a", Port: 1}, {Point: "a", Port: -1}, {Const: constant(), Port: 1},
		{Node: "a", Delayed: true}, {Point: "a", Delayed: true, Initial: api.Value{N: 1}}, {Const: constant(), Delayed: true}, {Node: "a", Delayed: true, Initial: api.Value{Kind: api.Analog, N: api.MaxAnalog + 1}},
		{Node: "a", Initial: constant()}, {Point: "a", Initial: api.Value{N: 1}}, {Const: constant(), Initial: constant()},
	} {
		if links.IsFormed(l) {
			t.Errorf("%d: %v is formed", i, l)
		}
	}
}
