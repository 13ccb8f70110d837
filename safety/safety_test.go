package safety_test

import (
	"fmt"
	"math"
	"reflect"
	"slices"
	"testing"

	"plenum/api"
	"plenum/safety"
)

// on and off are the binary values.
func on() api.Value  { return api.Value{Kind: api.Binary, N: 1} }
func off() api.Value { return api.Value{Kind: api.Binary} }

// analog and multi make values.
func analog(n int64) api.Value { return api.Value{Kind: api.Analog, N: n} }
func multi(n int64) api.Value  { return api.Value{Kind: api.Multi, N: n} }

// fan makes a binary output.
func fan(name string, minOn, minOff int) api.Point {
	return api.Point{Name: name, Kind: api.Binary, Role: api.Output, Default: off(), MinOn: minOn, MinOff: minOff}
}

// set makes a setting, and turn a request.
func set(point string, v api.Value) api.Setting      { return api.Setting{Point: point, Value: v} }
func turn(level int, v api.Value) api.Request        { return api.Request{Level: level, Value: v} }
func mode(name string, list ...api.Setting) api.Mode { return api.Mode{Name: name, Settings: list} }

// The indices of the points of the hall.
const (
	indexA = iota
	indexB
	indexC
	indexH
	indexM
	indexT
	indexV
	count
)

// hall has the outputs a and b, which exclude each other, c with minimum times, the held h and m, the input t and the valve v.
func hall() safety.Table {
	return safety.Table{
		Points: []api.Point{
			fan("a", 0, 0), fan("b", 0, 0), fan("c", 60, 30),
			{Name: "h", Kind: api.Binary, Role: api.Held, Default: on()},
			{Name: "m", Kind: api.Multi, Role: api.Held, States: []string{"eco", "comfort"}, Default: multi(2)},
			{Name: "t", Kind: api.Analog, Role: api.Input, High: 100000},
			{Name: "v", Kind: api.Analog, Role: api.Output, Low: 5000, High: 100000, Default: analog(20000)},
		},
		Groups: []api.Group{{Name: "g", Points: []string{"b", "a"}, Dead: 10}},
		Modes: []api.Mode{
			mode("fire", set("a", on()), set("c", off())),
			mode("smoke", set("a", off()), set("m", multi(1)), set("v", analog(100000))),
		},
	}
}

// quiet are requests that want what the hall does after a restart, with some of them replaced.
func quiet(other map[int]api.Request) []api.Request {
	list := []api.Request{turn(17, off()), turn(17, off()), turn(17, off()), turn(17, off()), turn(17, multi(1)), {}, turn(17, analog(5000))}
	for i, r := range other {
		list[i] = r
	}
	return list
}

// start is the state of the hall after a restart.
func start(t *testing.T, now int) safety.State {
	t.Helper()
	s, e := safety.Start(hall(), now)
	if e != api.OK {
		t.Fatalf("Start: %d", e)
	}
	return s
}

// changed returns the hall after a change.
func changed(change func(t *safety.Table)) safety.Table {
	t := hall()
	change(&t)
	return t
}

// many makes distinct modes.
func many(n int) []api.Mode {
	var list []api.Mode
	for i := range n {
		list = append(list, mode(fmt.Sprintf("m%02d", i)))
	}
	return list
}

// badTable is a table that is not valid, with its error.
type badTable struct {
	table safety.Table
	want  api.Errno
}

// badTables are tables that are not valid.
func badTables() []badTable {
	with := func(want api.Errno, changes ...func(t *safety.Table)) badTable {
		return badTable{changed(func(t *safety.Table) {
			for _, change := range changes {
				change(t)
			}
		}), want}
	}
	modes := func(list ...api.Mode) func(t *safety.Table) { return func(t *safety.Table) { t.Modes = list } }
	settings := func(list ...api.Setting) func(t *safety.Table) { return modes(mode("fire", list...)) }
	swapped := func(t *safety.Table) { t.Points[0], t.Points[1] = t.Points[1], t.Points[0] }
	badGroup := func(t *safety.Table) { t.Groups[0].Dead = -1 }
	badPoint := func(t *safety.Table) { t.Points[6].Name = "V" }
	return []badTable{
		with(api.ErrName, badPoint), with(api.ErrRange, func(t *safety.Table) { t.Points[2].MinOn = -1 }), with(api.ErrRange, func(t *safety.Table) { t.Points[2].MinOn = -1 }, badPoint), with(api.ErrName, badPoint, swapped),
		with(api.ErrDuplicate, swapped), with(api.ErrDuplicate, func(t *safety.Table) { t.Points[1].Name = "a" }), with(api.ErrDuplicate, swapped, badGroup),
		with(api.ErrRange, badGroup), with(api.ErrTooMany, func(t *safety.Table) { t.Groups = make([]api.Group, 17) }), with(api.ErrUnknown, func(t *safety.Table) { t.Groups[0].Points[0] = "z" }), with(api.ErrType, func(t *safety.Table) { t.Groups[0].Points[0] = "h" }), with(api.ErrRange, badGroup, modes(many(17)...)), with(api.ErrDuplicate, func(t *safety.Table) { t.Groups[0].Points[0] = "a" }),
		with(api.ErrTooMany, modes(many(17)...)), with(api.ErrTooMany, modes(make([]api.Mode, 17)...)),
		with(api.ErrName, modes(mode("Fire"))), with(api.ErrName, modes(mode(""))), with(api.ErrName, modes(mode("fire"), mode("fire"), mode("Fire"))), with(api.ErrName, modes(mode("b", set("z", on())), mode("A"))), with(api.ErrName, modes(mode("a/b"))),
		with(api.ErrDuplicate, modes(mode("fire"), mode("fire"))), with(api.ErrDuplicate, modes(mode("smoke"), mode("fire"))), with(api.ErrDuplicate, settings(set("a", on()), set("a", on()))), with(api.ErrDuplicate, settings(set("b", on()), set("a", on()))), with(api.ErrDuplicate, settings(set("z", on()), set("z", on()))),
		with(api.ErrDuplicate, modes(mode("fire", set("z", on())), mode("smoke", set("b", on()), set("a", on())))), with(api.ErrDuplicate, modes(mode("smoke", set("z", on())), mode("fire"))), with(api.ErrDuplicate, modes(mode("fire", set("b", on()), set("a", on())), mode("smoke"))),
		with(api.ErrUnknown, settings(set("z", on()))), with(api.ErrUnknown, settings(set("", on()))), with(api.ErrUnknown, settings(set("a", analog(1)), set("t", on()), set("z", on()))), with(api.ErrUnknown, modes(mode("fire", set("t", on())), mode("smoke", set("z", on())))),
		with(api.ErrType, settings(set("t", analog(1)))), with(api.ErrType, settings(set("a", analog(1)), set("t", analog(1)))), with(api.ErrType, modes(mode("fire", set("a", analog(1))), mode("smoke", set("t", analog(1))))),
		with(api.ErrRange, settings(set("a", analog(1)))), with(api.ErrRange, settings(set("a", api.Value{}))), with(api.ErrRange, settings(set("a", api.Value{Kind: api.Binary, N: 2}))), with(api.ErrRange, settings(set("v", analog(4999)))), with(api.ErrRange, settings(set("v", analog(100001)))), with(api.ErrRange, settings(set("m", multi(3)))), with(api.ErrRange, settings(set("a", on()), set("m", multi(0)))), with(api.ErrRange, modes(mode("fire", set("a", on())), mode("smoke", set("v", on())))),
	}
}

func TestP16_1Check(t *testing.T) {
	for i, table := range []safety.Table{
		hall(), {}, {Points: hall().Points}, {Points: hall().Points, Groups: hall().Groups}, {Modes: []api.Mode{mode("fire")}}, changed(func(t *safety.Table) { t.Modes = many(16) }),
		changed(func(t *safety.Table) {
			t.Modes = []api.Mode{mode("fire", set("h", off()), set("m", multi(2)), set("v", analog(5000)))}
		}),
	} {
		if e := safety.Check(table); e != api.OK {
			t.Errorf("Check %d: %d", i, e)
		}
	}
	for i, c := range badTables() {
		if e := safety.Check(c.table); e != c.want {
			t.Errorf("Check %d: %d, not %d", i, e, c.want)
		}
	}
}

func TestP16_1BadTables(t *testing.T) {
	for i, c := range badTables() {
		if s, e := safety.Start(c.table, -1); e != c.want || !reflect.DeepEqual(s, safety.State{}) {
			t.Errorf("Start %d: %v, %d, not %d", i, s, e, c.want)
		}
		if list, e := safety.Orders(c.table, []string{"none"}); e != c.want || len(list) != 0 {
			t.Errorf("Orders %d: %v, %d, not %d", i, list, e, c.want)
		}
		if list, e := safety.Request(c.table, nil, []string{"none"}, []api.Setting{{}}); e != c.want || len(list) != 0 {
			t.Errorf("Request %d: %v, %d, not %d", i, list, e, c.want)
		}
		if s, list, e := safety.Step(c.table, safety.State{}, nil, -1); e != c.want || len(list) != 0 || !reflect.DeepEqual(s, safety.State{}) {
			t.Errorf("Step %d: %v, %v, %d, not %d", i, s, list, e, c.want)
		}
	}
}

func TestP16_1Start(t *testing.T) {
	for _, now := range []int{0, 100, api.MaxInstant} {
		s, e := safety.Start(hall(), now)
		want := safety.State{
			Outputs: []api.Driven{{Value: off(), Changed: now}, {Value: off(), Changed: now}, {Value: off(), Changed: now}, {Value: off(), Changed: now}, {Value: multi(1), Changed: now}, {}, {Value: analog(5000), Changed: now}},
			Left:    []int{now},
		}
		if e != api.OK || !reflect.DeepEqual(s, want) {
			t.Errorf("Start(%d): %v, %d", now, s, e)
		}
	}
	for _, now := range []int{-1, api.MaxInstant + 1, math.MinInt, math.MaxInt} {
		if s, e := safety.Start(hall(), now); e != api.ErrRange || !reflect.DeepEqual(s, safety.State{}) {
			t.Errorf("Start(%d): %v, %d", now, s, e)
		}
	}
	if s, e := safety.Start(safety.Table{}, 5); e != api.OK || len(s.Outputs) != 0 || len(s.Left) != 0 {
		t.Errorf("Start: %v, %d", s, e)
	}
}

func TestP16_2Orders(t *testing.T) {
	fire := []api.Setting{set("a", on()), set("c", off())}
	smoke := []api.Setting{set("a", off()), set("m", multi(1)), set("v", analog(100000))}
	both := []api.Setting{set("a", on()), set("c", off()), set("m", multi(1)), set("v", analog(100000))}
	for i, c := range []struct {
		modes []string
		want  []api.Setting
	}{
		{nil, nil}, {[]string{"fire"}, fire}, {[]string{"smoke"}, smoke}, {[]string{"fire", "smoke"}, both}, {[]string{"smoke", "fire"}, both}, {[]string{"fire", "fire"}, fire}, {[]string{"smoke", "fire", "smoke"}, both},
	} {
		list, e := safety.Orders(hall(), c.modes)
		if e != api.OK || !slices.Equal(list, c.want) {
			t.Errorf("Orders %d: %v, %d", i, list, e)
		}
	}
	for _, modes := range [][]string{{"none"}, {""}, {"Fire"}, {"fire", "none"}, {"fir"}, {"a"}} {
		if list, e := safety.Orders(hall(), modes); e != api.ErrUnknown || len(list) != 0 {
			t.Errorf("Orders(%q): %v, %d", modes, list, e)
		}
	}
}

// write makes a write.
func write(level, seq int, v api.Value) api.Write {
	return api.Write{Level: level, Seq: seq, Value: v}
}

func TestP16_2Request(t *testing.T) {
	null := api.Value{}
	for i, c := range []struct {
		index    int
		writes   []api.Write
		modes    []string
		switches []api.Setting
		want     api.Request
	}{
		{indexA, nil, nil, nil, turn(17, off())}, {indexH, nil, nil, nil, turn(17, on())}, {indexM, nil, nil, nil, turn(17, multi(2))}, {indexV, nil, nil, nil, turn(17, analog(20000))},
		{indexA, []api.Write{write(16, 1, on())}, nil, nil, turn(16, on())}, {indexA, []api.Write{write(16, 1, on()), write(8, 2, off())}, nil, nil, turn(8, off())}, {indexA, []api.Write{write(8, 2, off()), write(16, 1, on())}, nil, nil, turn(8, off())}, {indexA, []api.Write{write(8, 1, on()), write(8, 2, off())}, nil, nil, turn(8, off())},
		{indexA, []api.Write{write(8, 1, on()), write(8, 2, null)}, nil, nil, turn(17, off())}, {indexA, []api.Write{write(8, 1, on()), write(8, 2, null), write(9, 1, on())}, nil, nil, turn(9, on())},
		// A value that does not fit is as if it had not been written.
		{indexA, []api.Write{write(8, 1, on()), write(8, 2, analog(0)), write(3, 1, multi(1))}, nil, nil, turn(8, on())}, {indexV, []api.Write{write(8, 1, analog(4999)), write(9, 1, analog(100001)), write(10, 1, analog(100000))}, nil, nil, turn(10, analog(100000))}, {indexM, []api.Write{write(8, 1, multi(3)), write(8, 2, multi(0))}, nil, nil, turn(17, multi(2))},
		{indexA, []api.Write{write(0, 1, on()), write(17, 1, on()), write(8, 0, on()), write(-1, 1, on())}, nil, nil, turn(17, off())}, {indexA, []api.Write{write(8, 1, on()), write(8, 2, api.Value{N: 1})}, nil, nil, turn(8, on())},
		{indexA, []api.Write{write(3, 1, off())}, []string{"fire"}, nil, turn(2, on())}, {indexA, []api.Write{write(2, 1, off())}, []string{"fire"}, nil, turn(2, on())}, {indexA, []api.Write{write(1, 1, off())}, []string{"fire"}, nil, turn(1, off())}, {indexA, []api.Write{write(1, 1, off()), write(1, 2, null)}, []string{"fire"}, nil, turn(2, on())}, {indexA, []api.Write{write(1, 1, analog(1))}, []string{"fire"}, nil, turn(2, on())},
		{indexA, nil, []string{"smoke", "fire"}, nil, turn(2, on())}, {indexA, nil, []string{"smoke"}, nil, turn(2, off())}, {indexB, []api.Write{write(2, 1, on())}, []string{"smoke", "fire"}, nil, turn(2, on())}, {indexV, nil, []string{"smoke"}, nil, turn(2, analog(100000))}, {indexC, []api.Write{write(4, 1, on())}, []string{"fire"}, nil, turn(2, off())},
		{indexA, []api.Write{write(1, 9, on())}, []string{"fire"}, []api.Setting{set("a", off())}, turn(1, off())}, {indexA, []api.Write{write(1, 9, on())}, nil, []api.Setting{set("c", off()), set("b", off())}, turn(1, on())}, {indexM, nil, []string{"smoke"}, []api.Setting{set("m", multi(2)), set("a", on())}, turn(1, multi(2))},
		{indexT, []api.Write{write(1, 1, analog(5))}, []string{"fire"}, nil, api.Request{}},
	} {
		arrays := make([][]api.Write, count)
		arrays[c.index] = c.writes
		list, e := safety.Request(hall(), arrays, c.modes, c.switches)
		if e != api.OK || len(list) != count || list[c.index] != c.want || list[indexT] != (api.Request{}) {
			t.Errorf("Request %d: %v, %d, not %v", i, list, e, c.want)
		}
	}
	if list, e := safety.Request(safety.Table{}, nil, nil, nil); e != api.OK || len(list) != 0 {
		t.Errorf("Request: %v, %d", list, e)
	}
}

func TestP16_2RequestErrors(t *testing.T) {
	arrays := make([][]api.Write, count)
	for i, c := range []struct {
		arrays   [][]api.Write
		modes    []string
		switches []api.Setting
		want     api.Errno
	}{
		{arrays[1:], []string{"none"}, []api.Setting{set("z", on())}, api.ErrUnknown}, {arrays, []string{"fire", "none"}, []api.Setting{set("t", on())}, api.ErrUnknown},
		{arrays[1:], nil, []api.Setting{set("z", on())}, api.ErrInvalid}, {nil, nil, nil, api.ErrInvalid}, {make([][]api.Write, count+1), []string{"fire"}, nil, api.ErrInvalid},
		{arrays, nil, []api.Setting{set("z", on())}, api.ErrUnknown}, {arrays, nil, []api.Setting{set("t", analog(0)), set("a", analog(5)), set("a", on()), set("z", on())}, api.ErrUnknown}, {arrays, nil, []api.Setting{set("g", on())}, api.ErrUnknown},
		{arrays, nil, []api.Setting{set("t", analog(0))}, api.ErrType}, {arrays, nil, []api.Setting{set("a", analog(5)), set("a", on()), set("t", analog(0))}, api.ErrType},
		{arrays, nil, []api.Setting{set("a", on()), set("a", on())}, api.ErrDuplicate}, {arrays, nil, []api.Setting{set("b", analog(5)), set("a", on()), set("c", on()), set("a", off())}, api.ErrDuplicate},
		{arrays, nil, []api.Setting{set("a", analog(0))}, api.ErrRange}, {arrays, nil, []api.Setting{set("a", api.Value{})}, api.ErrRange}, {arrays, nil, []api.Setting{set("a", on()), set("v", analog(4999))}, api.ErrRange}, {arrays, nil, []api.Setting{set("m", multi(3))}, api.ErrRange},
	} {
		if list, e := safety.Request(hall(), c.arrays, c.modes, c.switches); e != c.want || len(list) != 0 {
			t.Errorf("Request %d: %v, %d, not %d", i, list, e, c.want)
		}
	}
}

func TestP16_4Exclusive(t *testing.T) {
	driven := func(values ...api.Value) safety.State {
		s := safety.State{}
		for _, v := range values {
			s.Outputs = append(s.Outputs, api.Driven{Value: v, Changed: -7})
		}
		return s
	}
	pair := safety.Table{Points: []api.Point{{Name: "a"}, {Name: "b"}, {Name: "c"}}, Groups: []api.Group{{Points: []string{"c", "a"}}, {Points: []string{"b"}}}}
	twice := safety.Table{Points: []api.Point{{Name: "a"}, {Name: "b"}, {Name: "a"}}, Groups: []api.Group{{Points: []string{"a", "b"}}}}
	own := safety.Table{Points: []api.Point{{Name: "a"}}, Groups: []api.Group{{Points: []string{"a", "a"}}}}
	strange := safety.Table{Points: []api.Point{{Name: ""}, {Name: "a"}}, Groups: []api.Group{{Points: []string{"", "a", "z", "z"}, Dead: -5}}}
	for i, c := range []struct {
		table safety.Table
		s     safety.State
		want  bool
	}{
		{safety.Table{}, safety.State{}, true}, {pair, safety.State{}, true}, {pair, driven(off(), off(), off()), true}, {pair, driven(on(), on(), off()), true}, {pair, driven(on(), off(), on()), false}, {pair, driven(off(), on(), on()), true},
		{pair, driven(on()), true}, {pair, driven(on(), on()), true}, {pair, driven(on(), off(), on(), on()), false}, {pair, driven(on(), off(), analog(1)), true}, {pair, driven(on(), off(), api.Value{Kind: api.Binary, N: 2}), true}, {pair, driven(on(), off(), api.Value{N: 1}), true}, {pair, driven(on(), off(), multi(1)), true},
		// The first point with a name counts.
		{twice, driven(off(), on(), on()), true}, {twice, driven(on(), on(), off()), false}, {own, driven(on()), false}, {own, driven(off()), true}, {strange, driven(on(), on()), false}, {strange, driven(off(), on()), true}, {strange, driven(on(), off()), true},
		{safety.Table{Points: pair.Points}, driven(on(), on(), on()), true},
		{safety.Table{Points: pair.Points, Groups: []api.Group{{Points: []string{"b"}}, {Points: []string{"c", "a"}}}}, driven(on(), on(), on()), false},
	} {
		if got := safety.Exclusive(c.table, c.s); got != c.want {
			t.Errorf("Exclusive %d: %v", i, got)
		}
	}
}

func TestP16_5Explain(t *testing.T) {
	result := func(v api.Value, reason, level int, wanted api.Value) safety.Result {
		return safety.Result{Request: turn(level, wanted), Value: v, Reason: reason}
	}
	points := hall().Points
	for i, c := range []struct {
		p    api.Point
		r    safety.Result
		want string
	}{
		{points[indexA], result(on(), safety.ByRequest, 8, on()), "on by level 8"}, {points[indexA], result(off(), safety.ByRequest, 16, off()), "off by level 16"}, {points[indexA], result(on(), safety.ByRequest, 1, on()), "on by level 1"}, {points[indexA], result(off(), safety.ByRequest, 17, off()), "off by default"},
		{points[indexC], result(on(), safety.ByMinimum, 9, off()), "on, minimum time, off by level 9"}, {points[indexC], result(off(), safety.ByMinimum, 17, on()), "off, minimum time, on by default"}, {points[indexC], result(off(), safety.ByInterlock, 8, on()), "off, interlock, on by level 8"}, {points[indexC], result(off(), safety.ByInterlock, 17, on()), "off, interlock, on by default"}, {points[indexC], result(off(), safety.ByWaiting, 2, on()), "off, dead time, on by level 2"}, {points[indexC], result(off(), safety.ByWaiting, 17, on()), "off, dead time, on by default"},
		{points[indexM], result(multi(2), safety.ByRequest, 17, multi(2)), "comfort by default"}, {points[indexM], result(multi(1), safety.ByMinimum, 3, multi(2)), "eco, minimum time, comfort by level 3"}, {points[indexV], result(analog(20500), safety.ByRequest, 2, analog(20500)), "20.5 by level 2"},
		// Without a text of a value, or for no reason, there is none.
		{points[indexA], result(on(), 0, 8, on()), ""}, {points[indexA], result(on(), 5, 8, on()), ""}, {points[indexA], result(on(), -1, 8, on()), ""}, {points[indexT], safety.Result{}, ""}, {points[indexA], result(multi(1), safety.ByRequest, 8, multi(1)), ""}, {points[indexM], result(multi(3), safety.ByRequest, 8, multi(3)), ""},
		{points[indexC], result(on(), safety.ByMinimum, 9, multi(7)), ""}, {points[indexC], result(multi(7), safety.ByMinimum, 9, on()), ""}, {points[indexA], result(off(), math.MaxInt, 17, on()), ""},
	} {
		if got := safety.Explain(c.p, c.r); got != c.want {
			t.Errorf("Explain %d: %q, not %q", i, got, c.want)
		}
	}
}
