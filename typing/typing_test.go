package typing_test

import (
	"math"
	"reflect"
	"slices"
	"strconv"
	"strings"
	"testing"

	"plenum/api"
	"plenum/program"
	"plenum/typing"
	"plenum/wire"
)

// points are points of all kinds.
func points() []api.Point {
	number := func(name, unit string, role int) api.Point {
		p := api.Point{Name: name, Kind: api.Analog, Role: role, Unit: unit, Low: -100000, High: 100000}
		if role != api.Input {
			p.Default = api.Value{Kind: api.Analog}
		}
		return p
	}
	return []api.Point{
		number("room", "degC", api.Input), number("supply", "degC", api.Input), number("kelvin", "K", api.Input), number("flow", "l", api.Input), number("humid", "pct", api.Input), number("far", "m9", api.Input), number("ratio", "", api.Input), number("plain", "one", api.Input),
		number("valve", "pct", api.Output), number("power", "kW", api.Held), number("count", "", api.Held),
		{Name: "button", Kind: api.Binary, Role: api.Input}, {Name: "fan", Kind: api.Binary, Role: api.Output, Default: api.Value{Kind: api.Binary}},
		{Name: "mode", Kind: api.Multi, Role: api.Held, States: []string{"a", "b"}, Default: api.Value{Kind: api.Multi, N: 1}}, {Name: "state", Kind: api.Multi, Role: api.Held, States: []string{"a", "b", "c", "d"}, Default: api.Value{Kind: api.Multi, N: 1}},
	}
}

// constant reads a constant: on, off, a number of thousandths behind #, or a state behind m.
func constant(s string) (api.Value, bool) {
	n, err := strconv.ParseInt(s[1:], 10, 64)
	switch {
	case s == "on" || s == "off":
		return api.Value{Kind: api.Binary, N: int64(len("off") - len(s))}, true
	case s[0] == '#':
		return api.Value{Kind: api.Analog, N: n}, true
	case s[0] == 'm' && err == nil:
		return api.Value{Kind: api.Multi, N: n}, true
	}
	return api.Value{}, false
}

// link reads a link: a constant, the name of a point, or that of a node behind @; the initial value of a delayed one stands behind ~.
func link(s string) api.Link {
	source, initial, isDelayed := strings.Cut(s, "~")
	l := api.Link{Delayed: isDelayed}
	if isDelayed {
		l.Initial, _ = constant(initial)
	}
	v, isConstant := constant(source)
	switch {
	case isConstant:
		l.Const = v
	case source[0] == '@':
		l.Node = source[1:]
	default:
		l.Point = source
	}
	return l
}

// built reads a program: nodes (a name, a block with perhaps a parameter such as stage:stages=4, and links) and drives (a point, < and a link), with semicolons between them.
func built(source string) api.Program {
	p := api.Program{Name: "p", Period: 1}
	for _, part := range strings.Split(source, ";") {
		words := strings.Fields(part)
		if len(words) == 0 {
			continue
		}
		if words[1] == "<" {
			p.Drives = append(p.Drives, api.Drive{Point: words[0], Level: 10, From: link(words[2])})
			continue
		}
		block, param, isGiven := strings.Cut(words[1], ":")
		n := api.Node{Name: words[0], Block: block}
		if isGiven {
			name, value, _ := strings.Cut(param, "=")
			number, _ := strconv.ParseInt(value, 10, 64)
			n.Params = []api.Param{{Name: name, Value: number}}
		}
		for _, word := range words[2:] {
			n.Inputs = append(n.Inputs, link(word))
		}
		p.Nodes = append(p.Nodes, n)
	}
	return p
}

// types reads the texts of types, with commas between them.
func types(t *testing.T, list string) []api.Type {
	t.Helper()
	var out []api.Type
	for _, text := range strings.Split(list, ", ") {
		if text == "" {
			continue
		}
		x, e := wire.Parse(text)
		if e != api.OK {
			t.Fatalf("%q is no type", text)
		}
		out = append(out, x)
	}
	return out
}

// checkFits tests a program without a clash.
func checkFits(t *testing.T, source, want string) {
	t.Helper()
	p, list := built(source), types(t, want)
	got, e := typing.Infer(p, points())
	if e != api.OK || !slices.Equal(got, list) {
		c, _ := typing.Witness(p, points())
		t.Errorf("Infer of %q: %v, %d, not %v (%s)", source, got, e, list, typing.Text(c))
	}
	if c, e := typing.Witness(p, points()); c != (typing.Clash{}) || e != api.ErrNone {
		t.Errorf("Witness of %q: %v, %d", source, c, e)
	}
	if !typing.Check(p, points(), list) {
		t.Errorf("Check of %q with %v is false", source, list)
	}
}

// checkClash tests a program with a clash.
func checkClash(t *testing.T, source, want string) {
	t.Helper()
	p := built(source)
	c, e := typing.Witness(p, points())
	if e != api.OK || typing.Text(c) != want {
		t.Errorf("Witness of %q: %q, %d, not %q", source, typing.Text(c), e, want)
	}
	if got, e := typing.Infer(p, points()); len(got) != 0 || e != api.ErrType {
		t.Errorf("Infer of %q: %v, %d", source, got, e)
	}
}

func TestP24_1Blocks(t *testing.T) {
	for source, want := range map[string]string{
		"": "",
		// Without letters.
		"a above room supply": "binary", "a below power power": "binary", "a and button fan": "binary", "a and on off": "binary", "a not button": "binary", "a or button fan button fan": "binary", "a xor fan on": "binary", "a latch fan off": "binary", "a edge fan": "binary", "a ondelay:time=5 fan": "binary", "a offdelay fan": "binary", "a pulse fan": "binary", "a minrun fan": "binary", "a hyst room": "binary", "a hyst #5": "binary",
		"a count fan button": "analog one", "a line room": "analog one", "a line humid": "analog one", "a pid room supply on": "analog pct", "a pid humid valve fan": "analog pct", "a dewpoint room humid": "analog degC", "a enthalpy room humid": "analog 1000*m2/s2", "a dewpoint #5 #6": "analog degC",
		"a stage room": "multi 2", "a stage:stages=4 room": "multi 5", "a stage:stages=15 #1": "multi 16", "a steps fan on": "multi 2", "a steps:count=7 fan off": "multi 8", "a steps:count=15 on on": "multi 16", "a steps:least=7 fan off": "multi 2", "a stage:updelay=9 room": "multi 2",
		// With letters.
		"a sub supply room": "analog degC", "a neg flow": "analog l", "a abs ratio": "analog one", "a add #5 flow": "analog l", "a add flow #5": "analog l", "a add #5 #6": "analog one", "a mean room supply room #5": "analog degC", "a min #1 power": "analog kW", "a limit valve": "analog pct", "a rate far": "analog m9", "a add ratio plain": "analog one", "a rate kelvin": "analog K",
		"a pick fan room supply": "analog degC", "a pick fan #5 room": "analog degC", "a pick fan mode mode": "multi 2", "a pick on m2 mode": "multi 2", "a pick on m16 m1": "multi 16", "a pick on off on": "binary", "a pick fan button fan": "binary", "a pick fan #5 #6": "analog one",
		"a choose mode fan": "binary", "a choose m16 fan fan on": "binary", "a choose state mode mode m1": "multi 2", "a choose mode room room #3 room room supply room": "analog degC", "a choose state m3 m4": "multi 16",
		// Products and quotients.
		"a mul flow flow": "analog 1/1000000*m6", "a mul flow #5": "analog l", "a mul #5 #5": "analog one", "a div power flow": "analog 1000000000*g/m.s3", "a div power power": "analog one", "a div #5 power": "analog 1/1000000*s3/m2.g", "a mul kelvin ratio": "analog K", "a div humid #5": "analog pct", "a div humid humid": "analog one", "a mul humid humid": "analog 1/10000*one", "a div far flow": "analog 1000*m6",
	} {
		checkFits(t, source, want)
	}
}

func TestP24_1Order(t *testing.T) {
	for source, want := range map[string]string{
		// Nodes behind the one that needs their type.
		"b neg @a; a sub room supply": "analog degC, analog degC", "c neg @b; b neg @a; a neg flow": "analog l, analog l, analog l", "c mul @a @b; a neg flow; b neg ratio": "analog l, analog l, analog one",
		// An input that is no constant and has a type says so, even if one before it has none.
		"sum add room @sum~#0": "analog degC", "sum add @sum~#0 room": "analog degC", "a add @b~#0 @c; b neg @a; c neg room": "analog degC, analog degC, analog degC", "a max #5 @b~#7; b min @a~#0 power": "analog kW, analog kW",
		// Cycles: the first node has the type of its first delayed input, or that of plain numbers.
		"a neg @a~#0": "analog one", "a neg @b; b neg @a~#0": "analog one, analog one", "a neg @b; b neg @a": "analog one, analog one", "a pick on @a~on @a~on": "binary", "a pick on @a~m2 @a~m3": "multi 16", "a pick on @a~#2 @a~#3": "analog one",
		"a pick on m2 @a~m3": "multi 16", "a pick on @b~m2 @b~m2; b pick off @a @a": "multi 16, multi 16", "a pick on @b @b~off; b pick off @a~on @a~on": "binary, binary",
		// An input whose letter the output does not have does not count.
		"a choose @b~m3 @a~on; b pick on m2 @b~m4": "binary, multi 16", "a pick @a~off @a~off on": "binary",
		// Blocks with a product.
		"a mul @a~#0 #5": "analog one", "a mul @a~#0 ratio": "analog one", "a div @b~#0 ratio; b neg @a": "analog one, analog one",
		// What is not in a cycle is determined before.
		"a neg @a~#0; b neg @c; c neg room": "analog one, analog degC, analog degC", "a add @b~#0 @c~#0; b neg @a; c add @c~#0 room": "analog degC, analog degC, analog degC",
		// Blocks without letters in their outputs have a type at once.
		"a neg @b; b pid @a @a~#0 on": "analog pct, analog pct", "a above @b @a2; b neg room; a2 neg supply": "binary, analog degC, analog degC",
	} {
		checkFits(t, source, want)
	}
	checkClash(t, "a pick @b~on @a~m2 #5~#5; b not @b~off", "node a input 3: analog one instead of multi 16")
	checkClash(t, "a pick on @b @b; b pick off @a~m2 @a~m2", "node b input 2: multi 16 instead of analog one")
	checkClash(t, "a pick on @b~m2 @b~m2; b pick off @a~on @a~on", "node b input 2: binary instead of multi 16")
	checkClash(t, "a pick on @b~on @b~m2; b pick off @a @a", "node a input 3: multi 16 instead of binary")
}

func TestP24_1Inputs(t *testing.T) {
	for source, want := range map[string]string{
		// The type of the port.
		"a and fan room": "node a input 2: analog degC instead of binary", "a and mode fan": "node a input 1: multi 2 instead of binary", "a not #1": "node a input 1: analog one instead of binary", "a not m1": "node a input 1: multi 16 instead of binary", "a or fan fan button room": "node a input 4: analog degC instead of binary",
		"a dewpoint supply room": "node a input 2: analog degC instead of analog pct", "a dewpoint kelvin humid": "node a input 1: analog K instead of analog degC", "a enthalpy room ratio": "node a input 2: analog one instead of analog pct", "a dewpoint on humid": "node a input 1: binary instead of analog degC",
		"a choose fan fan": "node a input 1: binary instead of multi", "a choose room fan": "node a input 1: analog degC instead of multi", "a choose on fan": "node a input 1: binary instead of multi", "a choose #1 fan": "node a input 1: analog one instead of multi", "a pick mode fan fan": "node a input 1: multi 2 instead of binary", "a pid room room room": "node a input 3: analog degC instead of binary",
		// The letters.
		"a sub supply flow": "node a input 2: analog l instead of analog degC", "a sub room kelvin": "node a input 2: analog K instead of analog degC", "a max ratio humid": "node a input 2: analog pct instead of analog one", "a mean #5 room supply flow": "node a input 4: analog l instead of analog degC", "a above room power": "node a input 2: analog kW instead of analog degC", "a pid humid room on": "node a input 2: analog degC instead of analog pct",
		"a pick on room fan": "node a input 3: binary instead of analog degC", "a pick on mode state": "node a input 3: multi 4 instead of multi 2", "a pick on mode m3": "node a input 3: multi 16 instead of multi 2", "a pick on m3 mode": "node a input 2: multi 16 instead of multi 2", "a pick on #5 fan": "node a input 2: analog one instead of binary", "a pick on #5 on": "node a input 3: binary instead of analog one", "a pick on on room": "node a input 2: binary instead of analog degC", "a choose mode fan fan room": "node a input 4: analog degC instead of binary",
		// U and V are analog.
		"a neg fan": "node a input 1: binary instead of analog one", "a neg mode": "node a input 1: multi 2 instead of analog one", "a neg on": "node a input 1: binary instead of analog one", "a stage fan": "node a input 1: binary instead of analog one", "a mul flow fan": "node a input 2: binary instead of analog one", "a div m3 flow": "node a input 1: multi 16 instead of analog one", "a hyst mode": "node a input 1: multi 2 instead of analog one",
		"a add fan room": "node a input 1: binary instead of analog one", "a add room fan": "node a input 2: binary instead of analog degC", "a add on room": "node a input 1: binary instead of analog degC", "a add #5 fan": "node a input 2: binary instead of analog one", "a add room on": "node a input 2: binary instead of analog degC", "a add on #5": "node a input 1: binary instead of analog one", "a add #5 on": "node a input 2: binary instead of analog one",
		// Initial values, before the type of the link.
		"a not fan~#1": "node a input 1: analog one instead of binary", "a neg room~on": "node a input 1: binary instead of analog degC", "a not room~on": "node a input 1: binary instead of analog degC", "a choose mode~m3 fan": "node a input 1: multi 16 instead of multi 2", "a neg #5~m1": "node a input 1: multi 16 instead of analog one", "a not @b~#0; b not fan": "node a input 1: analog one instead of binary",
		"a and fan~#1 room": "node a input 1: analog one instead of binary", "a and room fan~#1": "node a input 1: analog degC instead of binary",
	} {
		checkClash(t, source, want)
	}
	for source, want := range map[string]string{
		"a not fan~on": "binary", "a neg room~#-5": "analog degC", "a choose mode~m2 fan": "binary", "a choose m2~m16 fan": "binary", "a choose m16~m1 on~off": "binary", "a pick on~off mode m2~m16": "multi 2", "a neg #5~#7": "analog one", "a add room #5~#7": "analog degC",
	} {
		checkFits(t, source, want)
	}
}

func TestP24_1Outputs(t *testing.T) {
	for source, want := range map[string]string{
		"a mul room flow": "node a output: analog one instead of analog one", "a mul supply room": "node a output: analog one instead of analog one", "a div flow room": "node a output: analog one instead of analog one", "a mul far flow": "node a output: analog one instead of analog one", "a div room room": "node a output: analog one instead of analog one",
		"a mul flow @a~#0": "node a output: analog one instead of analog l", "a mul @a~#0 flow": "node a output: analog one instead of analog l", "a div flow @a~#0": "node a output: analog one instead of analog l", "a div @a~#0 flow": "node a output: analog one instead of analog 1000*one/m3",
		// A node behind its inputs, before the next one.
		"a mul room flow; b not room": "node a output: analog one instead of analog one", "a mul room fan; b not room": "node a input 2: binary instead of analog one", "b not room; a mul room flow": "node b input 1: analog degC instead of binary", "a not fan; b mul room flow": "node b output: analog one instead of analog one",
	} {
		checkClash(t, source, want)
	}
}

func TestP24_1Drives(t *testing.T) {
	for source, want := range map[string]string{
		"fan < @a; a sub room supply": "drive 1: analog degC instead of binary", "valve < room": "drive 1: analog degC instead of analog pct", "valve < ratio": "drive 1: analog one instead of analog pct", "mode < state": "drive 1: multi 4 instead of multi 2", "mode < m3": "drive 1: multi 16 instead of multi 2", "fan < #1": "drive 1: analog one instead of binary", "valve < on": "drive 1: binary instead of analog pct",
		"fan < on; valve < room": "drive 2: analog degC instead of analog pct", "fan < on; mode < m2; valve < m2; state < fan": "drive 3: multi 16 instead of analog pct", "fan < fan~#0": "drive 1: analog one instead of binary", "valve < fan~#0": "drive 1: analog one instead of binary", "mode < m2~#0": "drive 1: analog one instead of multi 16", "mode < mode~m3": "drive 1: multi 16 instead of multi 2", "state < @a; a stage:stages=4 room": "drive 1: multi 5 instead of multi 4",
		// Nodes come first.
		"fan < room; a not room": "node a input 1: analog degC instead of binary", "fan < room; a mul room room": "node a output: analog one instead of analog one",
	} {
		checkClash(t, source, want)
	}
	for source, want := range map[string]string{
		"fan < on": "", "fan < button~off": "", "mode < m2": "", "mode < m2~m16": "", "state < state~m4": "", "valve < #5": "", "valve < humid": "", "count < plain": "", "count < #5~#-6": "", "power < #1000000": "",
		"err sub supply room; ctl pid room supply on; valve < @ctl": "analog degC, analog pct", "state < @a; a stage:stages=3 room": "multi 4", "count < @a~#0; a count fan off": "analog one", "fan < @a~on; a pick on @a~off @a~off": "binary",
	} {
		checkFits(t, source, want)
	}
	checkClash(t, "err sub supply room; ctl pid room supply on; fan < @ctl", "drive 1: analog pct instead of binary")
}

func TestP24_1Witness(t *testing.T) {
	degrees, one, none := api.Type{Kind: api.Analog, Unit: "degC"}, api.Type{Kind: api.Analog, Unit: "one"}, api.Type{}
	for source, want := range map[string]typing.Clash{
		"x and fan room":                    {Node: "x", Input: 1, Have: degrees, Want: api.Type{Kind: api.Binary}},
		"x choose fan on":                   {Node: "x", Input: 0, Have: api.Type{Kind: api.Binary}, Want: api.Type{Kind: api.Multi}},
		"x mul room room":                   {Node: "x", Input: -1, Have: one, Want: one},
		"fan < on; mode < room; a neg room": {Input: 1, Have: degrees, Want: api.Type{Kind: api.Multi, States: 2}},
	} {
		if c, e := typing.Witness(built(source), points()); c != want || e != api.OK {
			t.Errorf("Witness of %q: %v, %d", source, c, e)
		}
	}
	if c, e := typing.Witness(built("x neg room"), points()); c != (typing.Clash{Have: none}) || e != api.ErrNone {
		t.Errorf("Witness without a clash: %v, %d", c, e)
	}
}

func TestP24_2Check(t *testing.T) {
	p := built("a sub supply room; b stage:stages=3 @a; c above @a #5; valve < #5; fan < @c")
	right := "analog degC, multi 4, binary"
	if !typing.Check(p, points(), types(t, right)) {
		t.Fatal("Check is false")
	}
	for _, wrong := range []string{
		"", "analog degC", "analog degC, multi 4", "analog degC, multi 4, binary, binary", "analog K, multi 4, binary", "analog one, multi 4, binary", "analog degC, multi 3, binary", "analog degC, multi 5, binary", "analog degC, binary, binary", "analog degC, multi 4, multi 2", "binary, multi 4, binary", "multi 4, analog degC, binary",
	} {
		if typing.Check(p, points(), types(t, wrong)) {
			t.Errorf("Check with %q is true", wrong)
		}
	}
	// What is no type is not accepted, even where nothing is wanted of it.
	for _, bad := range []api.Type{{}, {Kind: api.Multi}, {Kind: api.Analog}, {Kind: api.Analog, Unit: "kw"}, {Kind: api.Analog, Unit: "m.m"}, {Kind: api.Binary, States: 1}, {Kind: api.Multi, States: 17}, {Kind: 4}} {
		list := types(t, right)
		list[0] = bad
		if typing.Check(p, points(), list) || typing.Check(built("a neg @a"), points(), []api.Type{bad}) {
			t.Errorf("Check with %v is true", bad)
		}
	}
	// A cycle has several lists of types.
	for list, want := range map[string]bool{"analog degC, analog degC": true, "analog m9, analog m9": true, "analog degC, analog K": false, "binary, binary": false, "multi 3, multi 3": false} {
		if got := typing.Check(built("a neg @b~#0; b abs @a"), points(), types(t, list)); got != want {
			t.Errorf("Check of a cycle with %q: %v", list, got)
		}
	}
	for list, want := range map[string]bool{"analog degC": false, "multi 3": true, "multi 2": false, "multi 16": true, "binary": false} {
		if got := typing.Check(built("a pick on @a~m3 @a~m1"), points(), types(t, list)); got != want {
			t.Errorf("Check of a choice with %q: %v", list, got)
		}
	}
	for source, list := range map[string]string{"a mul room flow": "analog one", "a mul flow flow": "analog one", "a neg fan": "binary", "a neg room; fan < @a": "analog degC", "a not fan~#0": "binary", "a mul room plain": "analog degC"} {
		if typing.Check(built(source), points(), types(t, list)) {
			t.Errorf("Check of %q with %q is true", source, list)
		}
	}
	invalid := append(points(), api.Point{Name: "A"})
	twice := append(points(), points()[0])
	unknown := built("a sub supply none; b stage:stages=3 @a; c above @a #5")
	if typing.Check(p, invalid, types(t, right)) || typing.Check(p, twice, types(t, right)) || typing.Check(unknown, points(), types(t, right)) || typing.Check(api.Program{}, nil, nil) {
		t.Error("Check of what is not valid is true")
	}
	if !typing.Check(built(""), nil, nil) {
		t.Error("Check of a program without nodes is false")
	}
}

func TestP24_3Link(t *testing.T) {
	p := built("a sub supply room; b not fan")
	list := types(t, "analog degC, binary")
	for s, want := range map[string]string{
		"@a": "analog degC", "@b": "binary", "@a~#5": "analog degC", "@a~on": "analog degC", "room": "analog degC", "fan": "binary", "mode": "multi 2", "ratio": "analog one", "valve~m16": "analog pct", "#5": "analog one", "on": "binary", "m1": "multi 16", "off~#5": "binary",
	} {
		if got, e := typing.Link(p, points(), list, link(s)); got != types(t, want)[0] || e != api.OK {
			t.Errorf("Link of %s: %v, %d", s, got, e)
		}
	}
	// The types may be any.
	odd := []api.Type{{Kind: 9, Unit: "x", States: -1}, {}}
	for i, s := range []string{"@a", "@b"} {
		if got, e := typing.Link(p, points(), odd, link(s)); got != odd[i] || e != api.OK {
			t.Errorf("Link of %s: %v, %d", s, got, e)
		}
	}
	bad := built("a sub supply")
	for i, c := range []struct {
		p      api.Program
		points []api.Point
		types  []api.Type
		l      api.Link
		e      api.Errno
	}{
		{bad, append(points(), api.Point{}), nil, api.Link{}, api.ErrInvalid}, {built("a frob room"), append(points(), points()[3]), nil, api.Link{}, api.ErrInvalid}, {built("a frob room"), points(), nil, api.Link{}, api.ErrUnknown}, {built("a neg room; a neg room"), points(), nil, api.Link{}, api.ErrDuplicate},
		{p, points(), nil, link("@a"), api.ErrInvalid}, {p, points(), list[:1], link("room"), api.ErrInvalid}, {p, points(), append(list, list[0]), link("#5"), api.ErrInvalid}, {p, points(), nil, link("@c"), api.ErrInvalid},
		{p, points(), list, api.Link{}, api.ErrInvalid}, {p, points(), list, api.Link{Node: "a", Point: "room"}, api.ErrInvalid}, {p, points(), list, api.Link{Node: "A"}, api.ErrInvalid}, {p, points(), list, api.Link{Node: "a", Port: 1}, api.ErrInvalid}, {p, points(), list, api.Link{Node: "a", Delayed: true}, api.ErrInvalid}, {p, points(), list, api.Link{Node: "c", Delayed: true}, api.ErrInvalid}, {p, points(), list, api.Link{Node: "a", Initial: api.Value{Kind: api.Analog}}, api.ErrInvalid}, {p, points(), list, link("m17"), api.ErrInvalid}, {p, points(), list, link("m0"), api.ErrInvalid}, {p, points(), list, api.Link{Point: "room", Const: api.Value{N: 1}}, api.ErrInvalid},
		{p, points(), list, link("@c"), api.ErrUnknown}, {p, points(), list, link("@room"), api.ErrUnknown}, {p, points(), list, link("a"), api.ErrUnknown}, {p, points(), list, link("none~#0"), api.ErrUnknown}, {built(""), nil, nil, link("room"), api.ErrUnknown},
	} {
		if got, e := typing.Link(c.p, c.points, c.types, c.l); got != (api.Type{}) || e != c.e {
			t.Errorf("Link %d: %v, %d, not %d", i, got, e, c.e)
		}
	}
	if got, e := typing.Link(built(""), nil, nil, link("#5")); got != types(t, "analog one")[0] || e != api.OK {
		t.Errorf("Link of a constant without anything else: %v, %d", got, e)
	}
}

func TestP24_3Natural(t *testing.T) {
	for want, list := range map[string][]api.Value{
		"analog one": {{Kind: api.Analog}, {Kind: api.Analog, N: api.MaxAnalog}, {Kind: api.Analog, N: -api.MaxAnalog}}, "binary": {{Kind: api.Binary}, {Kind: api.Binary, N: 1}}, "multi 16": {{Kind: api.Multi, N: 1}, {Kind: api.Multi, N: 16}},
	} {
		for _, v := range list {
			if got, e := typing.Natural(v); got != types(t, want)[0] || e != api.OK {
				t.Errorf("Natural of %v: %v, %d", v, got, e)
			}
		}
	}
	for _, v := range []api.Value{
		{}, {N: 1}, {Kind: 4, N: 1}, {Kind: -1}, {Kind: api.Analog, N: api.MaxAnalog + 1}, {Kind: api.Analog, N: -api.MaxAnalog - 1}, {Kind: api.Analog, N: math.MinInt64}, {Kind: api.Binary, N: 2}, {Kind: api.Binary, N: -1}, {Kind: api.Multi}, {Kind: api.Multi, N: 17}, {Kind: api.Multi, N: -1}, {Kind: api.Multi, N: math.MaxInt64},
	} {
		if got, e := typing.Natural(v); got != (api.Type{}) || e != api.ErrInvalid {
			t.Errorf("Natural of %v: %v, %d", v, got, e)
		}
	}
}

func TestP24_3Text(t *testing.T) {
	degrees, on, three := api.Type{Kind: api.Analog, Unit: "degC"}, api.Type{Kind: api.Binary}, api.Type{Kind: api.Multi, States: 3}
	for want, c := range map[string]typing.Clash{
		"node a input 1: binary instead of analog degC":                    {Node: "a", Have: on, Want: degrees},
		"node a input 8: multi 3 instead of binary":                        {Node: "a", Input: 7, Have: three, Want: on},
		"node a output: analog degC instead of multi 3":                    {Node: "a", Input: -1, Have: degrees, Want: three},
		"node a output: analog degC instead of multi":                      {Node: "a", Input: math.MinInt, Have: degrees, Want: api.Type{Kind: api.Multi}},
		"drive 1: multi instead of multi":                                  {Have: api.Type{Kind: api.Multi}, Want: api.Type{Kind: api.Multi}},
		"drive 256: ? instead of ?":                                        {Input: 255},
		"drive 0: ? instead of ?":                                          {Input: -1, Have: api.Type{Kind: api.Multi, States: 17}, Want: api.Type{Kind: api.Multi, Unit: "one"}},
		"drive -4: ? instead of ?":                                         {Input: -5, Have: api.Type{Kind: api.Multi, States: -1}, Want: api.Type{Kind: api.Analog, Unit: "kw"}},
		"drive -9223372036854775807: ? instead of binary":                  {Input: math.MinInt, Have: api.Type{Kind: api.Analog}, Want: on},
		"drive 9223372036854775808: ? instead of binary":                   {Input: math.MaxInt, Have: api.Type{Kind: 4}, Want: on},
		"node A b\xff: input 9223372036854775808: ? instead of analog one": {Node: "A b\xff:", Input: math.MaxInt, Have: api.Type{Kind: api.Binary, States: 1}, Want: api.Type{Kind: api.Analog, Unit: "one"}},
	} {
		if got := typing.Text(c); got != want {
			t.Errorf("Text of %v: %q, not %q", c, got, want)
		}
	}
}

func TestP24_1Errors(t *testing.T) {
	clash := built("a not room")
	for i, c := range []struct {
		p      api.Program
		points []api.Point
		e      api.Errno
	}{
		{clash, append(points(), api.Point{}), api.ErrInvalid}, {clash, append(points(), api.Point{Name: "a", Kind: api.Binary, Role: api.Held}), api.ErrInvalid}, {clash, append(points(), api.Point{Name: "x", Kind: api.Analog, Role: api.Input, Unit: "kw", High: 1}), api.ErrInvalid}, {clash, append(points(), points()[0]), api.ErrInvalid}, {built("a frob"), append(points(), points()[0]), api.ErrInvalid}, {api.Program{}, []api.Point{{}}, api.ErrInvalid},
		{api.Program{}, points(), api.ErrName}, {built("a frob room"), points(), api.ErrUnknown}, {built("a not none"), points(), api.ErrUnknown}, {built("a not @b"), points(), api.ErrUnknown}, {clash, nil, api.ErrUnknown}, {built("a not m17"), points(), api.ErrInvalid}, {built("a not room room"), points(), api.ErrInvalid}, {built("a neg room; a neg room"), points(), api.ErrDuplicate}, {built("a stage:stages=16 fan"), points(), api.ErrRange}, {built("a limit:low=1000000000000 fan; b hyst:off=1000 fan"), points(), api.ErrConflict}, {built("room < fan"), points(), api.ErrType}, {built("a not room; button < fan"), points(), api.ErrType},
	} {
		if list, e := typing.Infer(c.p, c.points); len(list) != 0 || e != c.e {
			t.Errorf("Infer %d: %v, %d, not %d", i, list, e, c.e)
		}
		if w, e := typing.Witness(c.p, c.points); w != (typing.Clash{}) || e != c.e {
			t.Errorf("Witness %d: %v, %d, not %d", i, w, e, c.e)
		}
		if typing.Check(c.p, c.points, types(t, "binary")) {
			t.Errorf("Check %d is true", i)
		}
	}
}

func TestP24Memory(t *testing.T) {
	const source = "a sub supply room; b neg @a; c pid @a @b on; valve < @c"
	p, list, given := built(source), points(), types(t, "analog degC, analog degC, analog pct")
	first, _ := typing.Infer(p, list)
	second, _ := typing.Infer(p, list)
	second[0] = api.Type{}
	typing.Witness(p, list)
	typing.Check(p, list, given)
	typing.Link(p, list, given, link("@a"))
	if !reflect.DeepEqual(p, built(source)) || !reflect.DeepEqual(list, points()) || !slices.Equal(given, types(t, "analog degC, analog degC, analog pct")) || !slices.Equal(first, given) {
		t.Error("an argument or a result was changed")
	}
}

// The greatest programs, whose types are found from the last node to the first one.
func TestP24_1Large(t *testing.T) {
	p := api.Program{Name: "p", Period: 1}
	name := func(i int) string { return "n" + strconv.Itoa(i) }
	for i := range api.MaxNodes {
		n := api.Node{Name: name(i), Block: "mean"}
		for range 8 {
			n.Inputs = append(n.Inputs, link("@"+name((i+1)%api.MaxNodes)))
		}
		p.Nodes = append(p.Nodes, n)
	}
	for _, last := range []string{"room", "#5"} {
		p.Nodes[api.MaxNodes-1].Inputs[7] = link(last)
		want := map[string]string{"room": "degC", "#5": "one"}[last]
		list, e := typing.Infer(p, points())
		if e != api.OK || len(list) != api.MaxNodes || slices.ContainsFunc(list, func(x api.Type) bool { return x.Unit != want }) {
			t.Errorf("with %s: %v, %d", last, list, e)
		}
	}
	if program.Check(points(), p) != api.OK {
		t.Error("the program is not valid")
	}
}
