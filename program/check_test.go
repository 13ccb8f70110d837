package program_test

import (
	"math"
	"reflect"
	"strconv"
	"strings"
	"testing"

	"plenum/api"
	"plenum/program"
)

// wrong is a change of the sample after which Check has an error.
type wrong struct {
	e      api.Errno
	change func(p *api.Program)
}

// steps are the changes in the order in which Check finds their errors.
func steps() [][]wrong {
	link := func(l api.Link) func(p *api.Program) {
		return func(p *api.Program) { p.Nodes[3].Inputs[2] = l }
	}
	from := func(l api.Link) func(p *api.Program) {
		return func(p *api.Program) { p.Drives[2].From = l }
	}
	level := func(n int) wrong { return wrong{api.ErrRange, func(p *api.Program) { p.Drives[1].Level = n }} }
	params := func(node int, e api.Errno, list ...api.Param) wrong {
		return wrong{e, func(p *api.Program) { p.Nodes[node].Params = list }}
	}
	return [][]wrong{
		{
			{api.ErrTooMany, func(p *api.Program) { p.Nodes = append(p.Nodes, make([]api.Node, api.MaxNodes-len(p.Nodes)+1)...) }},
			{api.ErrTooMany, func(p *api.Program) { p.Drives = append(p.Drives, make([]api.Drive, api.MaxPoints-len(p.Drives)+1)...) }},
		},
		{
			{api.ErrName, func(p *api.Program) { p.Name = "" }}, {api.ErrName, func(p *api.Program) { p.Name = "Ahu" }}, {api.ErrName, func(p *api.Program) { p.Name = "a/b" }}, {api.ErrName, func(p *api.Program) { p.Name = strings.Repeat("a", 25) }},
			{api.ErrName, func(p *api.Program) { p.Nodes[6].Name = "" }}, {api.ErrName, func(p *api.Program) { p.Nodes[6].Name = "Warm" }}, {api.ErrName, func(p *api.Program) { p.Nodes[6].Name = "a\xff" }},
		},
		{
			{api.ErrInvalid, link(api.Link{})}, {api.ErrInvalid, link(api.Link{Node: "run", Point: "temp"})}, {api.ErrInvalid, link(api.Link{Node: "Run"})}, {api.ErrInvalid, link(api.Link{Point: "a b"})}, {api.ErrInvalid, link(api.Link{Node: "run", Port: 1})}, {api.ErrInvalid, link(api.Link{Node: "run", Const: binary(1)})}, {api.ErrInvalid, link(api.Link{Const: binary(2)})}, {api.ErrInvalid, link(api.Link{Node: "run", Delayed: true})}, {api.ErrInvalid, link(api.Link{Node: "run", Initial: binary(1)})}, {api.ErrInvalid, link(api.Link{Node: "run", Initial: api.Value{N: 1}})},
			{api.ErrInvalid, from(api.Link{})}, {api.ErrInvalid, from(api.Link{Point: "fan", Port: -1})}, {api.ErrInvalid, from(api.Link{Const: multi(17)})}, {api.ErrInvalid, from(api.Link{Const: multi(0)})}, {api.ErrInvalid, from(api.Link{Const: analog(-api.MaxAnalog - 1)})},
		},
		{
			{api.ErrRange, func(p *api.Program) { p.Period = 0 }}, {api.ErrRange, func(p *api.Program) { p.Period = -1 }}, {api.ErrRange, func(p *api.Program) { p.Period = api.DaySeconds + 1 }}, {api.ErrRange, func(p *api.Program) { p.Period = math.MaxInt }},
			level(1), level(2), level(6), level(8), level(0), level(-3), level(17), level(math.MaxInt), level(math.MinInt),
		},
		{
			{api.ErrDuplicate, func(p *api.Program) { p.Nodes[6].Name = "err" }}, {api.ErrDuplicate, func(p *api.Program) { p.Drives[2].Point = "valve" }},
			{api.ErrDuplicate, func(p *api.Program) { n := p.Nodes[4]; n.Params[1], n.Params[2] = n.Params[2], n.Params[1] }}, params(4, api.ErrDuplicate, api.Param{Name: "up"}, api.Param{Name: "up"}), params(0, api.ErrDuplicate, api.Param{Name: "x"}, api.Param{Name: "a"}), params(4, api.ErrDuplicate, api.Param{Name: "up"}, api.Param{}),
		},
		{
			{api.ErrUnknown, func(p *api.Program) { p.Nodes[5].Block = "frob" }}, {api.ErrUnknown, func(p *api.Program) { p.Nodes[5].Block = "" }}, {api.ErrUnknown, func(p *api.Program) { p.Nodes[5].Block = "Minrun" }},
			params(5, api.ErrUnknown, api.Param{Name: "time"}), params(5, api.ErrUnknown, api.Param{}), params(5, api.ErrUnknown, api.Param{Name: "off"}, api.Param{Name: "on"}, api.Param{Name: "xx"}),
			{api.ErrUnknown, link(fromNode("none"))}, {api.ErrUnknown, link(fromNode("temp"))}, {api.ErrUnknown, link(fromPoint("none"))}, {api.ErrUnknown, link(fromPoint("run"))}, {api.ErrUnknown, from(fromNode("none"))}, {api.ErrUnknown, from(fromPoint("none"))}, {api.ErrUnknown, link(delayed(fromNode("none"), binary(0)))},
			{api.ErrUnknown, func(p *api.Program) { p.Drives[2].Point = "none" }}, {api.ErrUnknown, func(p *api.Program) { p.Drives[2].Point = "" }}, {api.ErrUnknown, func(p *api.Program) { p.Drives[2].Point = "run" }},
		},
		{
			{api.ErrInvalid, func(p *api.Program) { p.Nodes[6].Inputs = nil }}, {api.ErrInvalid, func(p *api.Program) { p.Nodes[6].Inputs = append(p.Nodes[6].Inputs, fromNode("err")) }}, {api.ErrInvalid, func(p *api.Program) { p.Nodes[6].Inputs = fromErr(9) }},
		},
		{
			params(1, api.ErrRange, api.Param{Name: "high", Value: api.MaxAnalog + 1}), params(1, api.ErrRange, api.Param{Name: "low", Value: math.MinInt64}), params(2, api.ErrRange, api.Param{Name: "time", Value: -1}), params(2, api.ErrRange, api.Param{Name: "time", Value: api.DaySeconds + 1}),
			params(1, api.ErrConflict, api.Param{Name: "high", Value: 4}, api.Param{Name: "low", Value: 5}),
		},
		{
			{api.ErrType, func(p *api.Program) { p.Drives[2].Point = "temp" }}, {api.ErrType, func(p *api.Program) { p.Drives[2].Point = "button" }},
		},
	}
}

// fromErr returns so many links from the node err.
func fromErr(count int) []api.Link {
	var list []api.Link
	for range count {
		list = append(list, fromNode("err"))
	}
	return list
}

func TestP23_2Check(t *testing.T) {
	if e := program.Check(points(), sample()); e != api.OK {
		t.Fatalf("the sample: %d", e)
	}
	all := steps()
	for i, list := range all {
		for k, w := range list {
			p := changed(sample(), w.change)
			before := changed(p)
			if e := program.Check(points(), p); e != w.e {
				t.Errorf("step %d, change %d: %d, not %d", i, k, e, w.e)
			}
			if !reflect.DeepEqual(p, before) {
				t.Errorf("step %d, change %d: the program was changed", i, k)
			}
			// Each error is looked for in the whole program before the next one.
			for _, later := range all[i+1:] {
				for m, x := range later {
					if e := program.Check(points(), changed(sample(), x.change, w.change)); e != w.e {
						t.Errorf("step %d, change %d, and a later change %d with %d: %d, not %d", i, k, m, x.e, e, w.e)
					}
				}
			}
		}
	}
}

func TestP23_2ChecksLimits(t *testing.T) {
	for i, change := range []func(p *api.Program){
		func(p *api.Program) { p.Period = 1 }, func(p *api.Program) { p.Period = api.DaySeconds }, func(p *api.Program) { p.Name = strings.Repeat("a", 24) }, func(p *api.Program) { p.Nodes[1].Params = nil }, func(p *api.Program) { p.Drives = nil },
		func(p *api.Program) { p.Nodes, p.Drives = nil, p.Drives[2:] }, func(p *api.Program) { p.Drives[0].From = fromPoint("valve") }, func(p *api.Program) { p.Drives[0].From = delayed(fromPoint("fan"), multi(1)) },
		func(p *api.Program) { p.Nodes[3].Inputs = fromErr(8) }, func(p *api.Program) { p.Nodes[3].Inputs = fromErr(2) }, func(p *api.Program) {
			p.Nodes[0].Name, p.Nodes[1].Inputs[0].Node, p.Nodes[6].Inputs[0].Node = "temp", "temp", "temp"
		},
		func(p *api.Program) { p.Name = "err" }, func(p *api.Program) { p.Nodes[1].Inputs[0].Node = "out" }, func(p *api.Program) { p.Nodes[0].Inputs[1] = fromConst(binary(1)) },
		func(p *api.Program) {
			for i := len(p.Nodes); i < api.MaxNodes; i++ {
				p.Nodes = append(p.Nodes, api.Node{Name: "n" + strconv.Itoa(i), Block: "neg", Inputs: fromErr(1)})
			}
		},
	} {
		if e := program.Check(points(), changed(sample(), change)); e != api.OK {
			t.Errorf("the program %d: %d", i, e)
		}
	}
	for level := 1; level <= api.Levels; level++ {
		want := api.OK
		if level == 1 || level == 2 || level == 6 || level == 8 {
			want = api.ErrRange
		}
		if e := program.Check(points(), changed(sample(), func(p *api.Program) { p.Drives[0].Level = level })); e != want {
			t.Errorf("level %d: %d", level, e)
		}
	}
	many := api.Program{Name: "p", Period: 1}
	var list []api.Point
	for i := range api.MaxPoints + 1 {
		name := "p" + strconv.Itoa(i)
		list = append(list, api.Point{Name: name, Role: api.Held})
		many.Drives = append(many.Drives, api.Drive{Point: name, Level: 16, From: fromPoint(name)})
	}
	if e := program.Check(list, many); e != api.ErrTooMany {
		t.Errorf("%d drives: %d", len(many.Drives), e)
	}
	many.Drives = many.Drives[1:]
	if e := program.Check(list, many); e != api.OK {
		t.Errorf("%d drives: %d", len(many.Drives), e)
	}
}

func TestP23_2ChecksPoints(t *testing.T) {
	p := sample()
	// Of several points with one name the first one counts; nothing but names and roles of points has an influence.
	reversed := points()
	reversed[2], reversed[5] = reversed[5], reversed[2]
	if e := program.Check(reversed, p); e != api.ErrType {
		t.Errorf("with an input valve: %d", e)
	}
	for i, want := range []api.Errno{api.ErrUnknown, api.ErrUnknown, api.OK, api.ErrUnknown, api.ErrUnknown, api.OK} {
		list := append(points()[:i:i], points()[i+1:]...)
		if i == 2 {
			want = api.ErrType
		}
		if e := program.Check(list, p); e != want {
			t.Errorf("without the point %d: %d, not %d", i, e, want)
		}
	}
	if e := program.Check(nil, p); e != api.ErrUnknown {
		t.Errorf("without points: %d", e)
	}
	for role, want := range map[int]api.Errno{api.Input: api.ErrType, api.Output: api.OK, api.Held: api.OK, 0: api.ErrType, 4: api.ErrType, -1: api.ErrType} {
		list := points()
		list[2].Role = role
		if e := program.Check(list, p); e != want {
			t.Errorf("with a valve of the role %d: %d", role, e)
		}
	}
	list := append(points(), api.Point{Kind: 77, Low: 5, States: []string{"", "\xff"}}, api.Point{Name: "A b"})
	if e := program.Check(list, p); e != api.OK {
		t.Errorf("with points that are not valid: %d", e)
	}
	// The first node with an error of its params counts.
	first := func(p *api.Program) {
		p.Nodes[1].Params = []api.Param{{Name: "high", Value: 4}, {Name: "low", Value: 5}}
	}
	second := func(p *api.Program) { p.Nodes[2].Params[0].Value = -1 }
	if e := program.Check(points(), changed(p, first, second)); e != api.ErrConflict {
		t.Errorf("ErrConflict, and ErrRange behind it: %d", e)
	}
	third := func(p *api.Program) { p.Nodes[6].Params = []api.Param{{Name: "off", Value: 5000}} }
	if e := program.Check(points(), changed(p, second, third)); e != api.ErrRange {
		t.Errorf("ErrRange, and ErrConflict behind it: %d", e)
	}
}
