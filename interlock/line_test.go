package interlock_test

import (
	"math"
	"reflect"
	"strings"
	"testing"

	"plenum/api"
	"plenum/interlock"
	"plenum/parser"
	"plenum/printer"
)

// fault makes a fault of line 1.
func fault(e api.Errno, col int) api.Fault { return api.Fault{Code: e, Line: 1, Col: col} }

// parsed returns the first line of a source.
func parsed(t *testing.T, source string) api.Line {
	t.Helper()
	lines, f := parser.Parse(source)
	if f.Code != api.OK || len(lines) != 1 {
		t.Fatalf("%q: %v", source, f)
	}
	return lines[0]
}

// lineOf returns the line of a group with some names and a dead time.
func lineOf(dead string, points ...string) string {
	return "group fans dead " + dead + " of " + strings.Join(points, " ")
}

func TestP15_5Load(t *testing.T) {
	long := strings.Repeat("x", 24)
	for s, want := range map[string]api.Group{
		"group fans dead 10 of a b c":                 fans(),
		"group  fans dead 10.000 of a b  c":           fans(),
		lineOf("0", "a", "b"):                         group("fans", "a", "b"),
		lineOf("3600", "b", "a"):                      {Name: "fans", Points: []string{"b", "a"}, Dead: 3600},
		lineOf("1", names("p", 16)...):                {Name: "fans", Points: names("p", 16), Dead: 1},
		"group group dead 0 of group of":              group("group", "group", "of"),
		"group of dead 0 of dead of":                  group("of", "dead", "of"),
		"group " + long + " dead 0 of " + long + " y": group(long, long, "y"),
	} {
		g, f := interlock.Load(parsed(t, s))
		if f != (api.Fault{}) || !reflect.DeepEqual(g, want) {
			t.Errorf("Load(%q): %v, %v, not %v", s, g, f, want)
		}
	}
}

func TestP15_5Faults(t *testing.T) {
	many := lineOf("0", names("p", 16)...)
	for s, want := range map[string]api.Fault{
		"groups fans dead 10 of a b": fault(api.ErrSyntax, 1), "5 fans dead 10 of a b": fault(api.ErrSyntax, 1), `"group" fans dead 10 of a b`: fault(api.ErrSyntax, 1),
		"group": fault(api.ErrSyntax, 1), "group 5 dead 10 of a b": fault(api.ErrSyntax, 7), `group "fans" dead 10 of a b`: fault(api.ErrSyntax, 7),
		"group Fans dead 10 of a b": fault(api.ErrName, 7), "group Fans": fault(api.ErrName, 7), "group a/b dead 10 of a b": fault(api.ErrName, 7), "group Fans died 0.5 of A A": fault(api.ErrName, 7),
		"group fans": fault(api.ErrSyntax, 7), "group fans died 10 of a b": fault(api.ErrSyntax, 12), "group fans 10 of a b": fault(api.ErrSyntax, 12), `group fans "dead" 10 of a b`: fault(api.ErrSyntax, 12),
		"group fans dead": fault(api.ErrSyntax, 12), "group fans dead ten of a b": fault(api.ErrSyntax, 17), `group fans dead "10" of a b`: fault(api.ErrSyntax, 17), "group fans dead 08:00 of a b": fault(api.ErrSyntax, 17), "group fans dead of a b": fault(api.ErrSyntax, 17),
		"group fans dead 0.5 of a b": fault(api.ErrRange, 17), "group fans dead 0.001 of a b": fault(api.ErrRange, 17), "group fans dead -1 of a b": fault(api.ErrRange, 17), "group fans dead 3600.001 of a b": fault(api.ErrRange, 17), "group fans dead 3601 of a b": fault(api.ErrRange, 17), "group fans dead -0.5 of A": fault(api.ErrRange, 17), "group fans dead 3601": fault(api.ErrRange, 17),
		"group fans dead 10": fault(api.ErrSyntax, 17), "group fans dead 10 off a b": fault(api.ErrSyntax, 20), "group fans dead 10 a b": fault(api.ErrSyntax, 20), `group fans dead 10 "of" a b`: fault(api.ErrSyntax, 20), "group fans dead 10 5 a b": fault(api.ErrSyntax, 20),
		"group fans dead 10 of": fault(api.ErrSyntax, 20), "group fans dead 10 of 5": fault(api.ErrSyntax, 23), `group fans dead 10 of "a" b`: fault(api.ErrSyntax, 23), "group fans dead 10 of a 5": fault(api.ErrSyntax, 25), `group fans dead 10 of a b "c"`: fault(api.ErrSyntax, 27), "group fans dead 10 of a b 2026-01-01": fault(api.ErrSyntax, 27), "group fans dead 10 of a b =": fault(api.ErrSyntax, 27),
		"group fans dead 10 of A": fault(api.ErrName, 23), "group fans dead 10 of a B a": fault(api.ErrName, 25), "group fans dead 10 of a b/c": fault(api.ErrName, 25), "group fans dead 10 of a " + strings.Repeat("b", 25): fault(api.ErrName, 25),
		"group fans dead 10 of a": fault(api.ErrInvalid, 23), "group fans dead 10 of    a": fault(api.ErrInvalid, 26), "group fans dead 10 of a:\n  a b\n": fault(api.ErrInvalid, 23),
		"group fans dead 10 of a a": fault(api.ErrDuplicate, 25), "group fans dead 10 of a b a C": fault(api.ErrDuplicate, 27), "group fans dead 10 of a b b 5": fault(api.ErrDuplicate, 27),
		many + " z": fault(api.ErrTooMany, len(many)+2), many + " z 5": fault(api.ErrTooMany, len(many)+2), many + " p00": fault(api.ErrTooMany, len(many)+2), many + " Z": fault(api.ErrName, len(many)+2), many + " 5": fault(api.ErrSyntax, len(many)+2),
		"group fans dead 10 of a b:": fault(api.ErrSyntax, 25), "group fans dead 10 of a b:\n  c\n": fault(api.ErrSyntax, 25), "group fans dead 10 of a a:\n  c\n": fault(api.ErrDuplicate, 25), "group fans dead 10:": fault(api.ErrSyntax, 17),
	} {
		g, f := interlock.Load(parsed(t, s))
		if f != want || !reflect.DeepEqual(g, api.Group{}) {
			t.Errorf("Load(%q): %v, %v, not %v", s, g, f, want)
		}
	}
}

func TestP15_5LoadAnyLine(t *testing.T) {
	good := parsed(t, "group fans dead 10 of a b c")
	good.At = 9
	kids := good
	kids.Kids = []api.Line{{}}
	heading := good
	heading.Heading = true
	none := api.Line{At: 4, Heading: true, Kids: []api.Line{{At: 5}}}
	huge := parsed(t, "group fans dead 10 of a b c")
	huge.At = math.MinInt
	huge.Tokens[3].N = math.MaxInt64 / 1000 * 1000
	huge.Tokens[3].At = math.MaxInt
	low := parsed(t, "group fans dead 10 of a b c")
	low.Tokens[3].N = math.MinInt64
	for i, c := range []struct {
		l    api.Line
		want api.Fault
	}{
		{good, api.Fault{}}, {kids, api.Fault{Code: api.ErrSyntax, Line: 9, Col: 27}}, {heading, api.Fault{Code: api.ErrSyntax, Line: 9, Col: 27}}, {none, api.Fault{Code: api.ErrSyntax, Line: 4, Col: 1}}, {api.Line{}, api.Fault{Code: api.ErrSyntax, Col: 1}},
		{huge, api.Fault{Code: api.ErrRange, Line: math.MinInt, Col: math.MaxInt}}, {low, fault(api.ErrRange, 17)},
		{api.Line{Tokens: []api.Token{{Kind: 99, Text: "group", At: -3}}}, api.Fault{Code: api.ErrSyntax, Col: -3}},
	} {
		g, f := interlock.Load(c.l)
		if f != c.want || f.Code != api.OK && !reflect.DeepEqual(g, api.Group{}) {
			t.Errorf("Load %d: %v, %v, not %v", i, g, f, c.want)
		}
	}
}

func TestP15_5Line(t *testing.T) {
	for s, g := range map[string]api.Group{
		"group fans dead 10 of a b c\n":       fans(),
		"group g dead 0 of b a\n":             group("g", "b", "a"),
		"group g dead 3600 of a of\n":         {Name: "g", Points: []string{"a", "of"}, Dead: 3600},
		lineOf("0", names("p", 16)...) + "\n": group("fans", names("p", 16)...),
	} {
		l, e := interlock.Line(g)
		if e != api.OK || l.At != 0 || l.Heading || len(l.Kids) != 0 {
			t.Errorf("Line(%v): %v, %d", g, l, e)
		}
		for _, token := range l.Tokens {
			if token.At != 0 {
				t.Errorf("Line(%v): %v has a column", g, token)
			}
		}
		if text, e := printer.Print([]api.Line{l}); e != api.OK || text != s {
			t.Errorf("Line(%v): %q, %d", g, text, e)
		}
		again, f := interlock.Load(l)
		if f != (api.Fault{}) || !reflect.DeepEqual(again, g) {
			t.Errorf("Load(Line(%v)): %v, %v", g, again, f)
		}
	}
	for _, g := range []api.Group{
		{}, group("g"), group("g", "a"), group("G", "a", "b"), group("", "a", "b"), group("g", "a", "B"), group("g", "", "b"), group("g", "a", "a"), group("g", "a", "b", "a"), group("g", names("p", 17)...),
		{Name: "g", Points: []string{"a", "b"}, Dead: -1}, {Name: "g", Points: []string{"a", "b"}, Dead: 3601}, {Name: "g", Points: []string{"a", "b"}, Dead: math.MinInt}, {Name: "g", Points: []string{"a", "b"}, Dead: math.MaxInt},
	} {
		if l, e := interlock.Line(g); e != api.ErrInvalid || !reflect.DeepEqual(l, api.Line{}) {
			t.Errorf("Line(%v): %v, %d", g, l, e)
		}
	}
}

func TestP15_5Examples(t *testing.T) {
	if g, f := interlock.Load(parsed(t, "group fans dead 10 of a b c")); f != (api.Fault{}) || !reflect.DeepEqual(g, fans()) {
		t.Errorf("Load: %v, %v", g, f)
	}
	if _, f := interlock.Load(parsed(t, "group fans dead 10 of a")); f != fault(api.ErrInvalid, 23) {
		t.Errorf("Load: %v", f)
	}
	if _, f := interlock.Load(parsed(t, "group fans dead 0.5 of a b")); f != fault(api.ErrRange, 17) {
		t.Errorf("Load: %v", f)
	}
}

func TestP15_5Memory(t *testing.T) {
	l := parsed(t, "group fans dead 10 of a b c")
	g, _ := interlock.Load(l)
	if !reflect.DeepEqual(l, parsed(t, "group fans dead 10 of a b c")) {
		t.Error("Load changed its argument")
	}
	line, _ := interlock.Line(g)
	g.Points[0] = "z"
	if again, _ := interlock.Load(l); !reflect.DeepEqual(again, fans()) {
		t.Errorf("Load: %v", again)
	}
	if again, _ := interlock.Load(line); !reflect.DeepEqual(again, fans()) {
		t.Errorf("Line shares memory with its argument: %v", again)
	}
}
