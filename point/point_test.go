package point_test

import (
	"math"
	"math/rand"
	"reflect"
	"slices"
	"strings"
	"testing"

	"plenum/api"
	"plenum/point"
)

// analog, binary and multi make values.
func analog(n int64) api.Value { return api.Value{Kind: api.Analog, N: n} }
func binary(n int64) api.Value { return api.Value{Kind: api.Binary, N: n} }
func multi(n int64) api.Value  { return api.Value{Kind: api.Multi, N: n} }

// states returns so many names.
func states(n int) []string {
	var list []string
	for i := range n {
		list = append(list, "s"+string(rune('a'+i)))
	}
	return list
}

// room, fan and mode are valid points of the three kinds; sensor, button and place are inputs.
func room() api.Point {
	return api.Point{Name: "room", Kind: api.Analog, Role: api.Held, Unit: "degC", Low: -20000, High: 60000, Step: 500, Default: analog(21000)}
}

func fan() api.Point {
	return api.Point{Name: "fan", Kind: api.Binary, Role: api.Output, Default: binary(1), MinOn: 60, MinOff: 120}
}

func mode() api.Point {
	return api.Point{Name: "mode", Kind: api.Multi, Role: api.Output, States: []string{"off", "heat", "cool"}, Default: multi(2)}
}

func sensor() api.Point {
	return api.Point{Name: "sensor", Kind: api.Analog, Role: api.Input, Low: 0, High: 1}
}

func button() api.Point { return api.Point{Name: "button", Kind: api.Binary, Role: api.Input} }

func place() api.Point {
	return api.Point{Name: "place", Kind: api.Multi, Role: api.Input, States: []string{"here"}}
}

// changed returns a point with changes.
func changed(p api.Point, changes ...func(p *api.Point)) api.Point {
	p.States = slices.Clone(p.States)
	for _, change := range changes {
		change(&p)
	}
	return p
}

// samples are valid points, ordinary ones and such at the limits.
func samples() []api.Point {
	const most = api.MaxAnalog
	list := []api.Point{
		room(), fan(), mode(), sensor(), button(), place(),
		changed(room(), func(p *api.Point) { p.Unit, p.Step, p.Default = "", 0, analog(-20000) }),
		changed(room(), func(p *api.Point) { p.Low, p.High, p.Step, p.Default = -most, most, most, analog(most) }),
		changed(room(), func(p *api.Point) { p.Low, p.High, p.Step, p.Default = -most, 1-most, 1, analog(-most) }),
		changed(room(), func(p *api.Point) { p.Low, p.High, p.Default = most-1, most, analog(most) }),
		changed(room(), func(p *api.Point) { p.Low, p.High, p.Default = 5000, 8000, analog(5000) }),
		changed(room(), func(p *api.Point) { p.Unit, p.Role = "1000*m2/s2.K", api.Output }),
		changed(room(), func(p *api.Point) { p.Unit, p.Default = "100000000000/99999999999*one/m9.g9.s9.K9", analog(60000) }),
		changed(room(), func(p *api.Point) { p.Unit, p.Name = "m2/s2", strings.Repeat("a", api.MaxName) }),
		changed(fan(), func(p *api.Point) { p.MinOn, p.MinOff, p.Default = 0, 0, binary(0) }),
		changed(fan(), func(p *api.Point) { p.MinOn, p.MinOff = 0, point.MaxMinimum }),
		changed(fan(), func(p *api.Point) { p.MinOn, p.MinOff = point.MaxMinimum, 0 }),
		changed(fan(), func(p *api.Point) { p.MinOn, p.MinOff, p.Role = 0, 0, api.Held }),
		changed(mode(), func(p *api.Point) { p.Default = multi(1) }), changed(mode(), func(p *api.Point) { p.Default, p.Role = multi(3), api.Held }),
		changed(mode(), func(p *api.Point) { p.States, p.Default = states(api.MaxStates), multi(api.MaxStates) }),
		changed(mode(), func(p *api.Point) { p.States, p.Default = []string{"off"}, multi(1) }),
		changed(mode(), func(p *api.Point) { p.States, p.Name = []string{"default", "states", "null"}, "point" }),
	}
	return list
}

// change is a change that makes a valid point invalid.
type change struct {
	name string
	make func(p *api.Point)
	want api.Errno
}

// spoiled returns the changes that make a point invalid, each for itself.
func spoiled(p api.Point) []change {
	const most = api.MaxAnalog
	list := []change{
		{"empty name", func(p *api.Point) { p.Name = "" }, api.ErrName}, {"upper-case name", func(p *api.Point) { p.Name = "Fan" }, api.ErrName}, {"long name", func(p *api.Point) { p.Name = strings.Repeat("a", 25) }, api.ErrName}, {"path as name", func(p *api.Point) { p.Name = "ahu/fan" }, api.ErrName},
		{"state that is no name", func(p *api.Point) { p.States = append(p.States, "Off") }, api.ErrName}, {"empty state", func(p *api.Point) { p.States = append([]string{""}, p.States...) }, api.ErrName}, {"17 states and no name", func(p *api.Point) { p.States = append(states(17), "9") }, api.ErrName},
		{"kind 0", func(p *api.Point) { p.Kind = api.Null }, api.ErrInvalid}, {"kind 4", func(p *api.Point) { p.Kind = 4 }, api.ErrInvalid}, {"kind -1", func(p *api.Point) { p.Kind = -1 }, api.ErrInvalid}, {"kind of nothing", func(p *api.Point) { p.Kind = math.MaxInt }, api.ErrInvalid},
		{"role 0", func(p *api.Point) { p.Role = 0 }, api.ErrInvalid}, {"role 4", func(p *api.Point) { p.Role = 4 }, api.ErrInvalid}, {"role -1", func(p *api.Point) { p.Role = math.MinInt }, api.ErrInvalid},
	}
	if p.Kind == api.Analog {
		for _, unit := range []string{"foot", "1*m", "kJ/kg.K", "m//s", "m9.m", "degC/s", " m", "m ", "\x00", strings.Repeat("m", 41), "g.m", "rpm.s", "J.J/J"} {
			list = append(list, change{"unit " + unit, func(p *api.Point) { p.Unit = unit }, api.ErrType})
		}
		list = append(list, change{"states", func(p *api.Point) { p.States = []string{"off"} }, api.ErrInvalid},
			change{"high is low", func(p *api.Point) { p.High = p.Low }, api.ErrRange}, change{"high below low", func(p *api.Point) { p.High = p.Low - 1 }, api.ErrRange}, change{"low too great", func(p *api.Point) { p.Low = most + 1 }, api.ErrRange}, change{"low too small", func(p *api.Point) { p.Low = -most - 1 }, api.ErrRange}, change{"low least", func(p *api.Point) { p.Low = math.MinInt64 }, api.ErrRange}, change{"high too great", func(p *api.Point) { p.High = most + 1 }, api.ErrRange}, change{"high greatest", func(p *api.Point) { p.High = math.MaxInt64 }, api.ErrRange}, change{"high too small", func(p *api.Point) { p.High = -most - 1 }, api.ErrRange},
			change{"negative step", func(p *api.Point) { p.Step = -1 }, api.ErrRange}, change{"step too great", func(p *api.Point) { p.Step = most + 1 }, api.ErrRange}, change{"step least", func(p *api.Point) { p.Step = math.MinInt64 }, api.ErrRange})
	} else {
		list = append(list, change{"unit", func(p *api.Point) { p.Unit = "m" }, api.ErrInvalid}, change{"no unit", func(p *api.Point) { p.Unit = "foot" }, api.ErrInvalid}, change{"low", func(p *api.Point) { p.Low = -1 }, api.ErrInvalid}, change{"high", func(p *api.Point) { p.High = most + 1 }, api.ErrInvalid}, change{"step", func(p *api.Point) { p.Step = 1 }, api.ErrInvalid})
	}
	if p.Kind == api.Binary && p.Role == api.Output {
		for _, n := range []int{-1, point.MaxMinimum + 1, math.MinInt, math.MaxInt} {
			list = append(list, change{"minimum on", func(p *api.Point) { p.MinOn = n }, api.ErrRange}, change{"minimum off", func(p *api.Point) { p.MinOff = n }, api.ErrRange})
		}
	} else {
		list = append(list, change{"minimum on", func(p *api.Point) { p.MinOn = 1 }, api.ErrInvalid}, change{"minimum off", func(p *api.Point) { p.MinOff = -1 }, api.ErrInvalid})
	}
	if p.Kind == api.Binary {
		list = append(list, change{"states", func(p *api.Point) { p.States = []string{"off", "on"} }, api.ErrInvalid})
	}
	if p.Kind == api.Multi {
		list = append(list, change{"no states", func(p *api.Point) { p.States = []string{} }, api.ErrInvalid}, change{"17 states", func(p *api.Point) { p.States = states(17) }, api.ErrTooMany}, change{"17 equal states", func(p *api.Point) { p.States = slices.Repeat([]string{"a"}, 17) }, api.ErrTooMany})
		if len(p.States) < api.MaxStates {
			list = append(list, change{"a state twice", func(p *api.Point) { p.States = append(p.States, p.States[0]) }, api.ErrDuplicate})
		}
	}
	return append(list, spoiledDefaults(p)...)
}

// spoiledDefaults returns the changes of the Default that make a point invalid.
func spoiledDefaults(p api.Point) []change {
	wrong := []api.Value{{N: 1}, {N: -1}, {Kind: 4}, {Kind: -1, N: 1}, multi(0), multi(-1), multi(17), multi(math.MaxInt64), binary(2), binary(-1), analog(p.Low - 1), analog(p.High + 1), analog(math.MinInt64), analog(math.MaxInt64)}
	switch {
	case p.Role == api.Input:
		wrong = append(wrong, analog(p.Low), binary(0), binary(1), multi(1))
	case p.Kind == api.Analog:
		wrong = append(wrong, api.Value{}, binary(0), binary(1), multi(1))
	case p.Kind == api.Binary:
		wrong = append(wrong, api.Value{}, analog(0), analog(1), multi(1))
	case p.Kind == api.Multi:
		wrong = append(wrong, api.Value{}, analog(1), binary(1), multi(int64(len(p.States))+1))
	}
	var list []change
	for _, v := range wrong {
		list = append(list, change{"default", func(p *api.Point) { p.Default = v }, api.ErrConflict})
	}
	return list
}

// checkInvalid tests Check and Line with a point that is not valid.
func checkInvalid(t *testing.T, name string, p api.Point, want api.Errno) {
	t.Helper()
	if e := point.Check(p); e != want {
		t.Errorf("%s: Check(%+v): %d, not %d", name, p, e, want)
	}
	if l, e := point.Line(p); e != want || !reflect.DeepEqual(l, api.Line{}) {
		t.Errorf("%s: Line(%+v): %v, %d, not %d", name, p, l, e, want)
	}
}

func TestP11_2Check(t *testing.T) {
	for _, p := range samples() {
		if e := point.Check(p); e != api.OK {
			t.Errorf("Check(%+v): %d", p, e)
		}
		for _, c := range spoiled(p) {
			checkInvalid(t, c.name, changed(p, c.make), c.want)
		}
	}
	checkInvalid(t, "zero", api.Point{}, api.ErrName)
	checkInvalid(t, "a name alone", api.Point{Name: "a"}, api.ErrInvalid)
	// Empty and nil slices are equivalent.
	if e := point.Check(changed(room(), func(p *api.Point) { p.States = []string{} })); e != api.OK {
		t.Errorf("Check with empty states: %d", e)
	}
}

// rank returns the place of an error among those of Check.
func rank(e api.Errno) int {
	return slices.Index([]api.Errno{api.ErrName, api.ErrInvalid, api.ErrTooMany, api.ErrType, api.ErrRange, api.ErrDuplicate, api.ErrConflict}, e)
}

func TestP11_2OrderOfErrors(t *testing.T) {
	bad := map[api.Errno][]func(p *api.Point){
		api.ErrName:      {func(p *api.Point) { p.Name = "9" }},
		api.ErrInvalid:   {func(p *api.Point) { p.Role = 9 }, func(p *api.Point) { p.MinOff = -1 }},
		api.ErrTooMany:   {func(p *api.Point) { p.States = append(p.States, states(17)...) }},
		api.ErrType:      {func(p *api.Point) { p.Unit = "foot" }},
		api.ErrRange:     {func(p *api.Point) { p.Low = 60000 }, func(p *api.Point) { p.Step = -1 }},
		api.ErrDuplicate: {func(p *api.Point) { p.States = append(p.States, "off", "off") }},
		api.ErrConflict:  {func(p *api.Point) { p.Default = api.Value{Kind: 9} }},
	}
	for _, c := range []struct {
		p      api.Point
		errors []api.Errno
	}{
		{room(), []api.Errno{api.ErrName, api.ErrInvalid, api.ErrType, api.ErrRange, api.ErrConflict}},
		{mode(), []api.Errno{api.ErrName, api.ErrInvalid, api.ErrTooMany, api.ErrDuplicate, api.ErrConflict}},
	} {
		for i, first := range c.errors {
			for _, second := range c.errors[i:] {
				if rank(first) > rank(second) {
					t.Fatal("the errors of the test are out of order")
				}
				for _, f := range bad[first] {
					for _, g := range bad[second] {
						checkInvalid(t, "two", changed(c.p, f, g), first)
						checkInvalid(t, "two", changed(c.p, g, f), first)
					}
				}
			}
		}
	}
	// Points of other kinds are invalid with states, however many, and with numbers out of range.
	checkInvalid(t, "states of a binary point", changed(fan(), func(p *api.Point) { p.States = states(20) }), api.ErrInvalid)
	checkInvalid(t, "minimum of an analog point", changed(room(), func(p *api.Point) { p.MinOn, p.Unit = -1, "foot" }), api.ErrInvalid)
	checkInvalid(t, "minimum and default", changed(fan(), func(p *api.Point) { p.MinOn, p.Default = -1, multi(3) }), api.ErrRange)
}

func TestP11_2Equal(t *testing.T) {
	changes := []func(p *api.Point){
		func(p *api.Point) { p.Name += "a" }, func(p *api.Point) { p.Kind++ }, func(p *api.Point) { p.Role++ }, func(p *api.Point) { p.Unit += "m" }, func(p *api.Point) { p.Low-- }, func(p *api.Point) { p.High++ }, func(p *api.Point) { p.Step++ }, func(p *api.Point) { p.States = append(p.States, "more") }, func(p *api.Point) { p.States = append([]string{""}, p.States...) },
		func(p *api.Point) { p.Default.Kind++ }, func(p *api.Point) { p.Default.N++ }, func(p *api.Point) { p.MinOn++ }, func(p *api.Point) { p.MinOff-- },
	}
	for i, a := range append(samples(), api.Point{}) {
		if !point.Equal(a, changed(a)) {
			t.Errorf("%+v is not equal to itself", a)
		}
		for k, change := range changes {
			if b := changed(a, change); point.Equal(a, b) || point.Equal(b, a) {
				t.Errorf("change %d of %+v is equal", k, a)
			}
		}
		for k, b := range append(samples(), api.Point{}) {
			if point.Equal(a, b) != (i == k) {
				t.Errorf("Equal of %+v and %+v", a, b)
			}
		}
		if len(a.States) > 0 {
			b := changed(a, func(p *api.Point) { p.States[len(p.States)-1] = "other" })
			c := changed(a, func(p *api.Point) { p.States = p.States[:len(p.States)-1] })
			if point.Equal(a, b) || point.Equal(a, c) || point.Equal(c, a) {
				t.Errorf("%+v is equal with other states", a)
			}
		}
	}
	a, b := mode(), mode()
	if slices.Reverse(b.States); point.Equal(a, b) {
		t.Error("equal with the states in another order")
	}
	// Nil and empty slices are equivalent.
	if b := changed(room(), func(p *api.Point) { p.States = []string{} }); !point.Equal(room(), b) || !point.Equal(b, room()) {
		t.Error("not equal with an empty slice in place of nil")
	}
}

// strange are points that are not valid, but that Fits, Limit, State and Commandable take.
func strange() []api.Point {
	return []api.Point{
		{}, {Kind: api.Null, Role: api.Held, Default: analog(3)}, {Kind: 7, Default: binary(1)}, {Kind: -1}, {Kind: api.Analog, Low: 5, High: -5, Default: multi(2)}, {Kind: api.Analog}, {Kind: api.Analog, Low: math.MinInt64, High: math.MaxInt64},
		{Kind: api.Binary, Low: 5, High: 9, States: []string{"a", "b"}, Default: analog(5)}, {Kind: api.Multi}, {Kind: api.Multi, States: states(20), Default: multi(19)}, {Kind: api.Multi, Low: 2, High: 2, States: []string{"a", "b", "a"}}, {Kind: api.Analog, States: []string{"x", "", "x"}, High: 1}, {Kind: 4, Role: 4, States: []string{"x"}},
	}
}

// values are values of all kinds, valid or not.
func values() []api.Value {
	var list []api.Value
	for _, kind := range []int{api.Null, api.Analog, api.Binary, api.Multi, 4, 7, -1, math.MinInt, math.MaxInt} {
		for _, n := range []int64{0, 1, 2, 3, 4, 16, 17, 19, 20, 21, -1, -5, 5, 500, -20000, -20001, 60000, 60001, 21000, api.MaxAnalog, api.MaxAnalog + 1, -api.MaxAnalog, -api.MaxAnalog - 1, math.MinInt64, math.MaxInt64} {
			list = append(list, api.Value{Kind: kind, N: n})
		}
	}
	return list
}

// fits is the definition of Fits.
func fits(p api.Point, v api.Value) bool {
	asAnalog := v.Kind == api.Analog && v.N >= p.Low && v.N <= p.High
	asBinary := v.Kind == api.Binary && (v.N == 0 || v.N == 1)
	asMulti := v.Kind == api.Multi && v.N >= 1 && v.N <= int64(len(p.States))
	return v.Kind == p.Kind && (asAnalog || asBinary || asMulti)
}

// limit is the definition of Limit.
func limit(p api.Point, v api.Value) api.Value {
	if p.Kind == api.Analog && v.Kind == api.Analog {
		if v.N < p.Low {
			return analog(p.Low)
		} else if v.N > p.High {
			return analog(p.High)
		}
		return v
	}
	if fits(p, v) {
		return v
	}
	return p.Default
}

func TestP11_3FitsAndLimit(t *testing.T) {
	for _, p := range append(samples(), strange()...) {
		for _, v := range values() {
			if got := point.Fits(p, v); got != fits(p, v) {
				t.Errorf("Fits(%+v, %v): %t", p, v, got)
			}
			if got := point.Limit(p, v); got != limit(p, v) {
				t.Errorf("Limit(%+v, %v): %v", p, v, got)
			}
		}
	}
	for _, c := range []struct {
		p       api.Point
		v, want api.Value
	}{
		{room(), analog(-20000), analog(-20000)}, {room(), analog(-20001), analog(-20000)}, {room(), analog(60000), analog(60000)}, {room(), analog(60001), analog(60000)}, {room(), analog(0), analog(0)}, {room(), api.Value{}, analog(21000)}, {room(), binary(1), analog(21000)}, {room(), analog(math.MaxInt64), analog(60000)}, {room(), analog(math.MinInt64), analog(-20000)},
		{fan(), binary(0), binary(0)}, {fan(), binary(2), binary(1)}, {fan(), binary(-1), binary(1)}, {fan(), analog(0), binary(1)}, {mode(), multi(3), multi(3)}, {mode(), multi(4), multi(2)}, {mode(), multi(0), multi(2)}, {button(), binary(5), api.Value{}}, {sensor(), api.Value{}, api.Value{}}, {sensor(), analog(5), analog(1)},
		// A range the wrong way round: what is less than Low becomes Low, first.
		{api.Point{Kind: api.Analog, Low: 5, High: -5}, analog(0), analog(5)}, {api.Point{Kind: api.Analog, Low: 5, High: -5}, analog(-9), analog(5)}, {api.Point{Kind: api.Analog, Low: 5, High: -5}, analog(9), analog(-5)}, {api.Point{Kind: api.Analog, Low: 5, High: -5}, analog(5), analog(-5)},
		// No value fits a point without a kind, not even Null.
		{api.Point{Default: multi(2)}, api.Value{}, multi(2)}, {api.Point{Kind: 9, Default: multi(2)}, api.Value{Kind: 9}, multi(2)},
	} {
		if got := point.Limit(c.p, c.v); got != c.want {
			t.Errorf("Limit(%+v, %v): %v, not %v", c.p, c.v, got, c.want)
		}
	}
}

func TestP11_3State(t *testing.T) {
	twice := api.Point{Kind: api.Multi, States: []string{"a", "b", "a", "", "b", "c"}}
	for _, c := range []struct {
		p    api.Point
		name string
		want int
		e    api.Errno
	}{
		{mode(), "off", 1, api.OK}, {mode(), "heat", 2, api.OK}, {mode(), "cool", 3, api.OK}, {mode(), "", 0, api.ErrUnknown}, {mode(), "Off", 0, api.ErrUnknown}, {mode(), "hea", 0, api.ErrUnknown}, {mode(), "heat ", 0, api.ErrUnknown}, {room(), "off", 0, api.ErrUnknown}, {fan(), "on", 0, api.ErrUnknown}, {api.Point{}, "", 0, api.ErrUnknown},
		{twice, "a", 1, api.OK}, {twice, "b", 2, api.OK}, {twice, "", 4, api.OK}, {twice, "c", 6, api.OK}, {api.Point{States: states(20)}, "st", 20, api.OK}, {api.Point{Kind: api.Analog, States: []string{"x"}}, "x", 1, api.OK},
	} {
		if n, e := point.State(c.p, c.name); n != c.want || e != c.e {
			t.Errorf("State(%+v, %q): %d, %d", c.p, c.name, n, e)
		}
	}
}

func TestP11_3Commandable(t *testing.T) {
	for role, want := range map[int]bool{api.Input: false, api.Output: true, api.Held: true, 0: false, 4: false, -1: false, math.MaxInt: false, math.MinInt: false} {
		for _, p := range append(samples(), strange()...) {
			p.Role = role
			if point.Commandable(p) != want {
				t.Errorf("Commandable(%+v)", p)
			}
		}
	}
}

func TestP11_4Limit(t *testing.T) {
	for _, p := range samples() {
		if p.Role == api.Input {
			continue
		}
		for _, v := range values() {
			limited := point.Limit(p, v)
			if !point.Fits(p, limited) || point.Fits(p, v) && limited != v || point.Limit(p, limited) != limited {
				t.Errorf("Limit(%+v, %v): %v", p, v, limited)
			}
		}
	}
}

// randomPoint returns a valid point.
func randomPoint(source *rand.Rand) api.Point {
	p := api.Point{Name: "p" + strings.Repeat("_", source.Intn(api.MaxName)), Kind: 1 + source.Intn(3), Role: 1 + source.Intn(3)}
	units := []string{"", "", "degC", "K", "pct", "m2/s2", "1/3600*m3/s", "1000*m2/s2.K", "one/s2", "kPa", "g.K"}
	switch p.Kind {
	case api.Analog:
		p.Unit = units[source.Intn(len(units))]
		p.Low = source.Int63n(2*api.MaxAnalog) - api.MaxAnalog
		p.High = p.Low + 1 + source.Int63n(api.MaxAnalog-p.Low)
		p.Step = source.Int63n(3) * source.Int63n(api.MaxAnalog/2)
		p.Default = analog(p.Low + source.Int63n(p.High-p.Low+1)*source.Int63n(2))
	case api.Binary:
		p.Default = binary(source.Int63n(2))
		if p.Role == api.Output {
			p.MinOn, p.MinOff = source.Intn(2)*source.Intn(point.MaxMinimum+1), source.Intn(2)*source.Intn(point.MaxMinimum+1)
		}
	case api.Multi:
		p.States = states(1 + source.Intn(api.MaxStates))
		source.Shuffle(len(p.States), func(i, k int) { p.States[i], p.States[k] = p.States[k], p.States[i] })
		p.Default = multi(1 + source.Int63n(int64(len(p.States))))
	}
	if p.Role == api.Input {
		p.Default = api.Value{}
	}
	return p
}
