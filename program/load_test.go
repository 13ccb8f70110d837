package program_test

import (
	"math"
	"math/rand"
	"reflect"
	"slices"
	"strconv"
	"strings"
	"testing"

	"plenum/api"
	"plenum/lexer"
	"plenum/parser"
	"plenum/printer"
	"plenum/program"
)

// word and number make tokens without a column.
func word(s string) api.Token  { return api.Token{Kind: api.TokWord, Text: s} }
func number(n int64) api.Token { return api.Token{Kind: api.TokNumber, N: n} }

// fault makes a fault.
func fault(e api.Errno, line, col int) api.Fault { return api.Fault{Code: e, Line: line, Col: col} }

// parsed returns the first line of a source.
func parsed(t *testing.T, source string) api.Line {
	t.Helper()
	lines, f := parser.Parse(source)
	if f.Code != api.OK || len(lines) != 1 {
		t.Fatalf("%q: %v", source, f)
	}
	return lines[0]
}

// cloned returns a line in new memory, without numbers and columns if it is to be plain, and with nil in place of empty slices.
func cloned(l api.Line, plain bool) api.Line {
	l.Tokens = append([]api.Token(nil), l.Tokens...)
	if plain {
		l.At = 0
		for i := range l.Tokens {
			l.Tokens[i].At = 0
		}
	}
	kids := l.Kids
	l.Kids = nil
	for _, kid := range kids {
		l.Kids = append(l.Kids, cloned(kid, plain))
	}
	return l
}

// checkLoad tests Load with a line.
func checkLoad(t *testing.T, l api.Line, want api.Program, wantFault api.Fault) {
	t.Helper()
	before := cloned(l, false)
	p, f := program.Load(l)
	if f != wantFault || !program.Equal(p, want) || f.Code != api.OK && !reflect.DeepEqual(p, api.Program{}) {
		t.Fatalf("Load(%v): %+v, %v, not %+v, %v", before, p, f, want, wantFault)
	}
	if !reflect.DeepEqual(cloned(l, false), before) {
		t.Fatalf("Load changed its argument %v", before)
	}
}

// checkLines tests that Load of the canonical lines gives the program, printed or not.
func checkLines(t *testing.T, p api.Program) {
	t.Helper()
	l, e := program.Line(p)
	if e != api.OK {
		t.Fatalf("%v has no lines: %d", p, e)
	}
	checkLoad(t, l, p, api.Fault{})
	source, e := printer.Print([]api.Line{l})
	if e != api.OK {
		t.Fatalf("the lines %v of %v cannot be printed: %d", l, p, e)
	}
	again := parsed(t, source)
	if !reflect.DeepEqual(cloned(again, true), cloned(l, false)) {
		t.Fatalf("the lines %v are not canonical for %q", l, source)
	}
	checkLoad(t, again, p, api.Fault{})
}

func TestP23_1Load(t *testing.T) {
	checkLoad(t, parsed(t, sampleSource), sample(), api.Fault{})
	node := func(block string, links ...api.Link) api.Program {
		return api.Program{Name: "p", Period: 1, Nodes: []api.Node{{Name: "n", Block: block, Inputs: links}}}
	}
	params := func(block string, list ...api.Param) api.Program {
		return api.Program{Name: "p", Period: 1, Nodes: []api.Node{{Name: "n", Block: block, Params: list}}}
	}
	drive := func(d api.Drive) api.Program { return api.Program{Name: "p", Period: 1, Drives: []api.Drive{d}} }
	const head = "program p period 1:\n  "
	const kid = "\n    "
	for s, want := range map[string]api.Program{
		"program ahu period 1":         {Name: "ahu", Period: 1},
		"program ahu period 86400.000": {Name: "ahu", Period: api.DaySeconds},
		"program program period 7:":    {Name: "program", Period: 7},
		// Kids in any order, and headings without kids.
		head + "node n add:": node("add"),
		head + "node n add":  node("add"),
		head + "node n add:" + kid + "in node b" + kid + "in point a":                                      node("add", fromNode("b"), fromPoint("a")),
		head + "node n n:" + kid + "param b 1" + kid + "in point a" + kid + "param a 2.5":                  {Name: "p", Period: 1, Nodes: []api.Node{{Name: "n", Block: "n", Params: []api.Param{{Name: "a", Value: 2500}, {Name: "b", Value: 1000}}, Inputs: []api.Link{fromPoint("a")}}}},
		head + "drive a level 3 from node b\n  node n add\n  drive c level 4 from point d\n  node m Add/2": {Name: "p", Period: 1, Nodes: []api.Node{{Name: "n", Block: "add"}, {Name: "m", Block: "Add/2"}}, Drives: []api.Drive{{Point: "a", Level: 3, From: fromNode("b")}, {Point: "c", Level: 4, From: fromPoint("d")}}},
		head + "node n add\n  node n sub":                                                                  {Name: "p", Period: 1, Nodes: []api.Node{{Name: "n", Block: "add"}, {Name: "n", Block: "sub"}}},
		// Links.
		head + "node n x:" + kid + "in analog 1000000000" + kid + "in analog -1000000000" + kid + "in analog 0.000":                               node("x", fromConst(analog(api.MaxAnalog)), fromConst(analog(-api.MaxAnalog)), fromConst(analog(0))),
		head + "node n x:" + kid + "in binary on" + kid + "in binary off" + kid + "in multi 1" + kid + "in multi 16":                              node("x", fromConst(binary(1)), fromConst(binary(0)), fromConst(multi(1)), fromConst(multi(16))),
		head + "node n x:" + kid + "in node n delayed analog 0" + kid + "in point delayed delayed binary on" + kid + "in multi 2 delayed multi 3": node("x", delayed(fromNode("n"), analog(0)), delayed(fromPoint("delayed"), binary(1)), delayed(fromConst(multi(2)), multi(3))),
		head + "node n x:" + kid + "in node node" + kid + "in point analog":                                                                       node("x", fromNode("node"), fromPoint("analog")),
		head + "drive level level 16 from binary off delayed analog -0.5":                                                                         drive(api.Drive{Point: "level", Level: 16, From: delayed(fromConst(binary(0)), analog(-500))}),
		head + "drive a level 1 from multi 5":                                       drive(api.Drive{Point: "a", Level: 1, From: fromConst(multi(5))}),
		head + "drive a level 8 from node from\n  drive a level 8.0 from node from": {Name: "p", Period: 1, Drives: []api.Drive{{Point: "a", Level: 8, From: fromNode("from")}, {Point: "a", Level: 8, From: fromNode("from")}}},
		// Params, with any words as names; whole ones are plain numbers, whatever the block is.
		head + "node n limit:" + kid + "param low 0.5" + kid + "param High -3":                                                                            params("limit", api.Param{Name: "High", Value: -3000}, api.Param{Name: "low", Value: 500}),
		head + "node n frob:" + kid + "param time 60.0" + kid + "param ti -5" + kid + "param reverse 1":                                                   params("frob", api.Param{Name: "reverse", Value: 1}, api.Param{Name: "ti", Value: -5}, api.Param{Name: "time", Value: 60}),
		head + "node n x:" + kid + "param stages 1" + kid + "param updelay 2" + kid + "param downdelay 3" + kid + "param count 4" + kid + "param least 5": params("x", api.Param{Name: "count", Value: 4}, api.Param{Name: "downdelay", Value: 3}, api.Param{Name: "least", Value: 5}, api.Param{Name: "stages", Value: 1}, api.Param{Name: "updelay", Value: 2}),
		head + "node n minrun:" + kid + "param on 60" + kid + "param off 0" + kid + "param up 7":                                                          params("minrun", api.Param{Name: "off"}, api.Param{Name: "on", Value: 60}, api.Param{Name: "up", Value: 7000}),
		head + "node n hyst:" + kid + "param on 60" + kid + "param off 0.001":                                                                             params("hyst", api.Param{Name: "off", Value: 1}, api.Param{Name: "on", Value: 60000}),
		head + "node n Minrun:" + kid + "param on 60" + kid + "param Time 0.5" + kid + "param times/_9 5":                                                 params("Minrun", api.Param{Name: "Time", Value: 500}, api.Param{Name: "on", Value: 60000}, api.Param{Name: "times/_9", Value: 5000}),
		head + "node n x:" + kid + "param kp 0.5" + kid + "param up 0.5" + kid + "param down 0.5" + kid + "param x1 0.5":                                  params("x", api.Param{Name: "down", Value: 500}, api.Param{Name: "kp", Value: 500}, api.Param{Name: "up", Value: 500}, api.Param{Name: "x1", Value: 500}),
	} {
		checkLoad(t, parsed(t, s), want, api.Fault{})
	}
}

func TestP23_1FaultsOfTheFirstLine(t *testing.T) {
	for s, want := range map[string]api.Fault{
		"Program a period 1": fault(api.ErrSyntax, 1, 1), "5": fault(api.ErrSyntax, 1, 1), `"program" a period 1`: fault(api.ErrSyntax, 1, 1), "node a period 1": fault(api.ErrSyntax, 1, 1),
		"program": fault(api.ErrSyntax, 1, 1), "program 5 period 1": fault(api.ErrSyntax, 1, 9), `program "a" period 1`: fault(api.ErrSyntax, 1, 9), "program A period 1": fault(api.ErrName, 1, 9), "program a/b 5": fault(api.ErrName, 1, 9), "program " + strings.Repeat("a", 25) + " x": fault(api.ErrName, 1, 9),
		"program a": fault(api.ErrSyntax, 1, 9), "program  a": fault(api.ErrSyntax, 1, 10), "program a 1": fault(api.ErrSyntax, 1, 11), "program a Period 1": fault(api.ErrSyntax, 1, 11), `program a "period" 1`: fault(api.ErrSyntax, 1, 11),
		"program a period": fault(api.ErrSyntax, 1, 11), "program a period x": fault(api.ErrSyntax, 1, 18), "program a period 08:00": fault(api.ErrSyntax, 1, 18), `program a period "5"`: fault(api.ErrSyntax, 1, 18),
		"program a period 0": fault(api.ErrRange, 1, 18), "program a period -1": fault(api.ErrRange, 1, 18), "program a period 0.5": fault(api.ErrRange, 1, 18), "program a period 1.001": fault(api.ErrRange, 1, 18), "program a period 86401": fault(api.ErrRange, 1, 18), "program a period 86400.001": fault(api.ErrRange, 1, 18), "program a period 0 x": fault(api.ErrRange, 1, 18),
		"program a period 1 x": fault(api.ErrSyntax, 1, 20), "program a period 1 1": fault(api.ErrSyntax, 1, 20), "program a period 1 =": fault(api.ErrSyntax, 1, 20),
		// The line comes before its kids.
		"program a period 1 x:\n  foo": fault(api.ErrSyntax, 1, 20), "program a:\n  foo": fault(api.ErrSyntax, 1, 9),
	} {
		checkLoad(t, parsed(t, s), api.Program{}, want)
	}
	checkLoad(t, api.Line{}, api.Program{}, fault(api.ErrSyntax, 0, 1))
	checkLoad(t, api.Line{At: 7, Tokens: []api.Token{}, Heading: true, Kids: []api.Line{{At: 8}}}, api.Program{}, fault(api.ErrSyntax, 7, 1))
	checkLoad(t, api.Line{At: math.MinInt, Tokens: []api.Token{{Kind: api.TokWord, Text: "program", At: math.MaxInt}}}, api.Program{}, fault(api.ErrSyntax, math.MinInt, math.MaxInt))
	// A line that is no heading may have kids here.
	l := api.Line{Tokens: []api.Token{word("program"), word("a"), word("period"), number(1000)}, Kids: []api.Line{{Tokens: []api.Token{word("node"), word("b"), word("add")}}}}
	checkLoad(t, l, api.Program{Name: "a", Period: 1, Nodes: []api.Node{{Name: "b", Block: "add"}}}, api.Fault{})
}

// lineFault is a line with the fault that it has behind other lines. The column is that in the line without its indentation.
type lineFault struct {
	line string
	e    api.Errno
	col  int
}

// linkFaults are the ends of lines in place of LINK, with their faults.
func linkFaults() []lineFault {
	return []lineFault{
		{"", api.ErrSyntax, -1}, {"5", api.ErrSyntax, 1}, {"Node a", api.ErrSyntax, 1}, {"delayed analog 5", api.ErrSyntax, 1}, {"on", api.ErrSyntax, 1}, {`"node" a`, api.ErrSyntax, 1}, {"= a", api.ErrSyntax, 1}, {"null", api.ErrSyntax, 1},
		{"node", api.ErrSyntax, 1}, {"node 5", api.ErrSyntax, 6}, {`node "a"`, api.ErrSyntax, 6}, {"node A", api.ErrName, 6}, {"node a/b", api.ErrName, 6}, {"node A b", api.ErrName, 6}, {"node a b", api.ErrSyntax, 8}, {"node a 5", api.ErrSyntax, 8}, {"node a Delayed analog 5", api.ErrSyntax, 8}, {"node a node a", api.ErrSyntax, 8},
		{"point", api.ErrSyntax, 1}, {"point 5", api.ErrSyntax, 7}, {"point A", api.ErrName, 7}, {"point " + strings.Repeat("a", 25), api.ErrName, 7}, {"point a b", api.ErrSyntax, 9},
		{"analog", api.ErrSyntax, 1}, {"analog x", api.ErrSyntax, 8}, {"analog 10:30", api.ErrSyntax, 8}, {`analog "5"`, api.ErrSyntax, 8}, {"analog 5 5", api.ErrSyntax, 10}, {"analog 5 delay", api.ErrSyntax, 10},
		{"binary", api.ErrSyntax, 1}, {"binary 1", api.ErrSyntax, 8}, {"binary On", api.ErrSyntax, 8}, {"binary yes", api.ErrSyntax, 8}, {`binary "on"`, api.ErrSyntax, 8}, {"binary on on", api.ErrSyntax, 11},
		{"multi", api.ErrSyntax, 1}, {"multi x", api.ErrSyntax, 7}, {"multi 0", api.ErrRange, 7}, {"multi 17", api.ErrRange, 7}, {"multi -1", api.ErrRange, 7}, {"multi 1.5", api.ErrRange, 7}, {"multi 16.001", api.ErrRange, 7}, {"multi 0 x", api.ErrRange, 7}, {"multi 2 x", api.ErrSyntax, 9},
		{"node a delayed", api.ErrSyntax, 8}, {"node a delayed 5", api.ErrSyntax, 16}, {"node a delayed node a", api.ErrSyntax, 16}, {"node a delayed point a", api.ErrSyntax, 16}, {"node a delayed delayed", api.ErrSyntax, 16}, {"node a delayed analog", api.ErrSyntax, 16}, {"node a delayed analog x", api.ErrSyntax, 23}, {"node a delayed binary 0", api.ErrSyntax, 23}, {"node a delayed multi 17", api.ErrRange, 22}, {"node a delayed multi 0.5", api.ErrRange, 22}, {"node a delayed analog 5 5", api.ErrSyntax, 25}, {"node a delayed binary on delayed", api.ErrSyntax, 26}, {"node A delayed multi 0", api.ErrName, 6}, {"multi 0 delayed multi 0", api.ErrRange, 7},
	}
}

// behind returns faults of lines that begin with a text, from those of their ends.
func behind(begin string, list []lineFault) []lineFault {
	var out []lineFault
	for _, f := range list {
		col := f.col + len(begin)
		if f.line == "" {
			col = strings.LastIndexByte(strings.TrimRight(begin, " "), ' ') + 2
		}
		out = append(out, lineFault{strings.TrimRight(begin+f.line, " "), f.e, col})
	}
	return out
}

func TestP23_1FaultsOfKids(t *testing.T) {
	list := []lineFault{
		{"foo", api.ErrSyntax, 1}, {"5", api.ErrSyntax, 1}, {"Node a add", api.ErrSyntax, 1}, {`"node" a add`, api.ErrSyntax, 1}, {"param low 5", api.ErrSyntax, 1}, {"in node a", api.ErrSyntax, 1}, {"program a period 1", api.ErrSyntax, 1}, {"= a", api.ErrSyntax, 1}, {"analog 5", api.ErrSyntax, 1},
		{"node", api.ErrSyntax, 1}, {"node 5 add", api.ErrSyntax, 6}, {"node A add", api.ErrName, 6}, {"node A", api.ErrName, 6}, {"node a/b add", api.ErrName, 6}, {"node a", api.ErrSyntax, 6}, {"node a 5", api.ErrSyntax, 8}, {`node a "add"`, api.ErrSyntax, 8}, {"node a add x", api.ErrSyntax, 12}, {"node a add 5 5", api.ErrSyntax, 12},
		{"drive", api.ErrSyntax, 1}, {"drive 5", api.ErrSyntax, 7}, {"drive A level 0", api.ErrName, 7}, {"drive a/b level 3 from node a", api.ErrName, 7}, {"drive a", api.ErrSyntax, 7}, {"drive a 3 from node a", api.ErrSyntax, 9}, {"drive a Level 3 from node a", api.ErrSyntax, 9}, {"drive a level", api.ErrSyntax, 9}, {"drive a level x", api.ErrSyntax, 15}, {"drive a level from node a", api.ErrSyntax, 15},
		{"drive a level 0 from node a", api.ErrRange, 15}, {"drive a level 17 from node a", api.ErrRange, 15}, {"drive a level -3 from node a", api.ErrRange, 15}, {"drive a level 3.5 from node a", api.ErrRange, 15}, {"drive a level 16.001", api.ErrRange, 15}, {"drive a level 3", api.ErrSyntax, 15}, {"drive a level 3 node a", api.ErrSyntax, 17}, {"drive a level 3 From node a", api.ErrSyntax, 17}, {"drive a level 3 to node a", api.ErrSyntax, 17},
		// A line that must not have kids is complained of behind its tokens.
		{"drive a level 3 from node a:", api.ErrSyntax, 27}, {"drive a level 3 from node a:\n    in node b", api.ErrSyntax, 27}, {"drive a level 3 from node a delayed binary on:\n    in node b", api.ErrSyntax, 44}, {"drive a level 17 from node a:", api.ErrRange, 15}, {"drive a level 3 from node a b:", api.ErrSyntax, 29}, {"foo:\n    in node b", api.ErrSyntax, 1},
	}
	list = append(list, behind("drive a level 3 from ", linkFaults())...)
	for _, f := range list {
		for i, others := range []string{"", "node b add:\n    in node c\n  drive b level 3 from node b\n  "} {
			line, indent := 2+3*i, 2
			checkLoad(t, parsed(t, "program p period 1:\n  "+others+f.line), api.Program{}, fault(f.e, line, f.col+indent))
			// A later fault does not count.
			checkLoad(t, parsed(t, "program p period 1:\n  "+others+f.line+"\n  node A\n  foo"), api.Program{}, fault(f.e, line, f.col+indent))
		}
	}
}

func TestP23_1FaultsOfKidsOfNodes(t *testing.T) {
	const other = "param other 5\n    in node a\n    "
	list := []lineFault{
		{"foo", api.ErrSyntax, 1}, {"5", api.ErrSyntax, 1}, {"In node a", api.ErrSyntax, 1}, {`"in" node a`, api.ErrSyntax, 1}, {"node a add", api.ErrSyntax, 1}, {"drive a level 3 from node a", api.ErrSyntax, 1}, {"delayed", api.ErrSyntax, 1},
		{"param", api.ErrSyntax, 1}, {"param 5", api.ErrSyntax, 7}, {`param "low" 5`, api.ErrSyntax, 7}, {"param low", api.ErrSyntax, 7}, {"param low x", api.ErrSyntax, 11}, {`param low "5"`, api.ErrSyntax, 11}, {"param low 10:30", api.ErrSyntax, 11}, {"param low 5 5", api.ErrSyntax, 13}, {"param low 5 x", api.ErrSyntax, 13},
		{"param time 0.5", api.ErrRange, 12}, {"param time -0.001", api.ErrRange, 12}, {"param ti 1.5", api.ErrRange, 10}, {"param stages 1.5", api.ErrRange, 14}, {"param updelay 1.5", api.ErrRange, 15}, {"param downdelay 1.5", api.ErrRange, 17}, {"param count 1.5", api.ErrRange, 13}, {"param least 1.5", api.ErrRange, 13}, {"param reverse 1.5", api.ErrRange, 15}, {"param on 1.5", api.ErrRange, 10}, {"param off 60.001", api.ErrRange, 11}, {"param on 0.5 x", api.ErrRange, 10},
		{"param low 5:", api.ErrSyntax, 11}, {"param low 5:\n      in node b", api.ErrSyntax, 11}, {"param time 0.5:", api.ErrRange, 12}, {"in node b:", api.ErrSyntax, 9}, {"in node b:\n      in node b", api.ErrSyntax, 9}, {"in node b delayed multi 5:", api.ErrSyntax, 25}, {"in node B:\n      in node b", api.ErrName, 9},
	}
	for _, f := range append(list, behind("in ", linkFaults())...) {
		for i, others := range []string{"", other} {
			line, indent := 3+2*i, 4
			checkLoad(t, parsed(t, "program p period 1:\n  node n minrun:\n    "+others+f.line), api.Program{}, fault(f.e, line, f.col+indent))
			// The kids of a node are read before the next line.
			checkLoad(t, parsed(t, "program p period 1:\n  node n minrun:\n    "+others+f.line+"\n    foo\n  node A\n  foo"), api.Program{}, fault(f.e, line, f.col+indent))
		}
	}
	for s, want := range map[string]api.Fault{
		other + "param other 6": fault(api.ErrDuplicate, 5, 11), other + "param other x": fault(api.ErrDuplicate, 5, 11), other + "param other": fault(api.ErrDuplicate, 5, 11), other + "param other 5 5:": fault(api.ErrDuplicate, 5, 11),
		"param on 5\n    param off 6\n    param on 5.5": fault(api.ErrDuplicate, 5, 11), "param Low 5\n    param low 5\n    param Low 5": fault(api.ErrDuplicate, 5, 11),
	} {
		checkLoad(t, parsed(t, "program p period 1:\n  node n minrun:\n    "+s), api.Program{}, want)
	}
	// Another node may have the same params.
	same := []api.Param{{Name: "low", Value: 5000}}
	checkLoad(t, parsed(t, "program p period 1:\n  node a x:\n    param low 5\n  node a x:\n    param low 5"), api.Program{Name: "p", Period: 1, Nodes: []api.Node{{Name: "a", Block: "x", Params: same}, {Name: "a", Block: "x", Params: same}}}, api.Fault{})
	// A line of a node comes before its kids.
	checkLoad(t, parsed(t, "program p period 1:\n  node n:\n    foo"), api.Program{}, fault(api.ErrSyntax, 2, 8))
	checkLoad(t, parsed(t, "program p period 1:\n  node n add x:\n    foo"), api.Program{}, fault(api.ErrSyntax, 2, 14))
}

func TestP23_1TooMany(t *testing.T) {
	load := func(count int, lines ...string) (api.Program, api.Fault) {
		return program.Load(parsed(t, "program p period 1:\n"+strings.Repeat(lines[0]+"\n", count)+strings.Join(lines[1:], "\n")))
	}
	for _, c := range []struct {
		line  string
		most  int
		count func(p api.Program) int
	}{
		{"  node n add", api.MaxNodes, func(p api.Program) int { return len(p.Nodes) }},
		{"  drive a level 3 from node a", api.MaxPoints, func(p api.Program) int { return len(p.Drives) }},
	} {
		if p, f := load(c.most, c.line); f != (api.Fault{}) || c.count(p) != c.most {
			t.Errorf("%q, %d times: %v", c.line, c.most, f)
		}
		// The first token comes before ErrTooMany, and the others behind it.
		word, _, _ := strings.Cut(strings.TrimSpace(c.line), " ")
		for _, last := range []string{c.line, "  " + word, "  " + word + " A", "  " + word + ":\n    foo"} {
			if _, f := load(c.most, c.line, last); f != fault(api.ErrTooMany, c.most+2, 3) {
				t.Errorf("%q behind %d lines: %v", last, c.most, f)
			}
		}
		if _, f := load(c.most, c.line, "  x"+word); f != fault(api.ErrSyntax, c.most+2, 3) {
			t.Errorf("%q: %v", word, f)
		}
	}
	// Nodes and drives are counted apart.
	if p, f := load(api.MaxNodes, "  node n add", strings.Repeat("  drive a level 3 from node a\n", api.MaxPoints)); f.Code != api.OK || len(p.Nodes) != api.MaxNodes || len(p.Drives) != api.MaxPoints {
		t.Errorf("all nodes and all drives: %v", f)
	}
	full := "  node n add:\n" + strings.Repeat("    in node a\n", api.MaxInputs)
	if p, f := load(2, full+"    param low 5"); f.Code != api.OK || len(p.Nodes) != 2 || len(p.Nodes[1].Inputs) != api.MaxInputs {
		t.Errorf("%d inputs: %v", api.MaxInputs, f)
	}
	for last, want := range map[string]api.Errno{"in node a": api.ErrTooMany, "in": api.ErrTooMany, "in node A": api.ErrTooMany, "in foo:": api.ErrTooMany, "inn": api.ErrSyntax} {
		if _, f := load(1, full+"    "+last); f != fault(want, 3+api.MaxInputs, 5) {
			t.Errorf("%q behind %d inputs: %v", last, api.MaxInputs, f)
		}
	}
	// Params are not counted.
	l := parsed(t, "program p period 1:\n  node n x")
	for i := range 50000 {
		l.Kids[0].Kids = append(l.Kids[0].Kids, api.Line{At: 9, Tokens: []api.Token{word("param"), word("p" + strconv.Itoa(i)), number(5)}})
	}
	if p, f := program.Load(l); f.Code != api.OK || len(p.Nodes[0].Params) != 50000 || p.Nodes[0].Params[2].Name != "p10" {
		t.Errorf("many params: %v", f)
	}
}

// expectation returns the kind that a token of a program's line must have at an index, given the tokens before it, or "end". The line begins with a right word.
func expectation(block string, tokens []api.Token, i int) string {
	at := func(k int) string {
		if k < 0 {
			return ""
		}
		return tokens[k].Text
	}
	fixed := map[string][]string{
		"program": {"", "name", "=period", "count 86400", "end"}, "node": {"", "name", "word", "end"}, "param": {"", "param", "number", "end"},
		"drive": {"", "name", "=level", "count 16", "=from"}, "in": {""},
	}[at(0)]
	if at(0) == "param" && i == 2 && strings.Contains(" time ti stages updelay downdelay count least reverse ", " "+at(1)+" ") {
		return "whole"
	}
	if at(0) == "param" && i == 2 && block == "minrun" && (at(1) == "on" || at(1) == "off") {
		return "whole"
	}
	if i < len(fixed) {
		return fixed[i]
	}
	link := i - len(fixed)
	switch source := i - link; {
	case link == 0:
		return "=node=point=analog=binary=multi"
	case link == 1:
		return map[string]string{"node": "name", "point": "name", "analog": "number", "binary": "=off=on", "multi": "count 16"}[at(source)]
	case link == 2:
		return "=delayed or end"
	case link == 3:
		return "=analog=binary=multi"
	case link == 4:
		return map[string]string{"analog": "number", "binary": "=off=on", "multi": "count 16"}[at(i-1)]
	}
	return "end"
}

// tokenError returns the error of a token of which a kind is expected.
func tokenError(kind string, t api.Token, given map[string]bool) api.Errno {
	most, isCount := strings.CutPrefix(kind, "count ")
	limit, _ := strconv.ParseInt(most, 10, 64)
	switch {
	case isCount && t.Kind == api.TokNumber:
		if t.N < 1000 || t.N > limit*1000 || t.N%1000 != 0 {
			return api.ErrRange
		}
		return api.OK
	case kind == "whole" && t.Kind == api.TokNumber && t.N%1000 != 0:
		return api.ErrRange
	case kind == "number" || kind == "whole":
		if t.Kind == api.TokNumber {
			return api.OK
		}
	case t.Kind != api.TokWord:
	case kind == "name" && !lexer.Name(t.Text):
		return api.ErrName
	case kind == "param" && given[t.Text]:
		return api.ErrDuplicate
	case kind == "name" || kind == "word" || kind == "param":
		return api.OK
	case strings.HasPrefix(kind, "=") && slices.Contains(strings.Split(strings.TrimSuffix(kind, " or end")[1:], "="), t.Text):
		return api.OK
	}
	return api.ErrSyntax
}

// model finds the first fault by the definitions.
type model struct {
	counts map[string]int  // of the lines by their words, and of the inputs of the node
	given  map[string]bool // params of the node
	block  string
}

// line returns the fault of a line whose first word must be one of some words, without its kids.
func (m *model) line(l api.Line, words ...string) api.Fault {
	at := func(i int, e api.Errno) api.Fault {
		if len(l.Tokens) == 0 {
			return fault(e, l.At, 1)
		}
		return fault(e, l.At, l.Tokens[min(i, len(l.Tokens)-1)].At)
	}
	if len(l.Tokens) == 0 || l.Tokens[0].Kind != api.TokWord || !slices.Contains(words, l.Tokens[0].Text) {
		return at(0, api.ErrSyntax)
	}
	word := l.Tokens[0].Text
	if most, limited := map[string]int{"node": 64, "drive": 256, "in": 8}[word]; limited && m.counts[word] == most {
		return at(0, api.ErrTooMany)
	}
	m.counts[word]++
	for i := 1; ; i++ {
		kind := expectation(m.block, l.Tokens[:min(i, len(l.Tokens))], i)
		if i == len(l.Tokens) {
			if !strings.HasSuffix(kind, "end") {
				return at(i, api.ErrSyntax)
			}
			break
		}
		if e := tokenError(kind, l.Tokens[i], m.given); e != api.OK {
			return at(i, e)
		}
	}
	if word == "param" {
		m.given[l.Tokens[1].Text] = true
	}
	if word != "program" && word != "node" && (l.Heading || len(l.Kids) > 0) {
		return at(len(l.Tokens), api.ErrSyntax)
	}
	return api.Fault{}
}

// firstFault returns the first fault of the lines of a program.
func firstFault(l api.Line) api.Fault {
	m := &model{counts: map[string]int{}}
	if f := m.line(l, "program"); f.Code != api.OK {
		return f
	}
	for _, kid := range l.Kids {
		if f := m.line(kid, "node", "drive"); f.Code != api.OK {
			return f
		}
		if kid.Tokens[0].Text == "drive" {
			continue
		}
		m.block, m.given, m.counts["in"] = kid.Tokens[2].Text, map[string]bool{}, 0
		for _, k := range kid.Kids {
			if f := m.line(k, "param", "in"); f.Code != api.OK {
				return f
			}
		}
	}
	return api.Fault{}
}

// randomToken returns a token that is often out of place.
func randomToken(source *rand.Rand) api.Token {
	return pick(source, word("A"), word("a"), word("node"), word("point"), word("analog"), word("delayed"), word("on"), word(""), number(1000), number(0), number(17000), number(2500), number(-1000), number(math.MinInt64), number(math.MaxInt64),
		api.Token{Kind: api.TokText, Text: "a"}, api.Token{Kind: api.TokTime, N: 60}, api.Token{Kind: api.TokDate, Text: "*-*-*"}, api.Token{Kind: api.TokSign, Text: "="}, api.Token{Kind: 0, Text: "node"}, api.Token{Kind: 77, Text: "a"})
}

// corrupt changes something in one of the lines of a program, perhaps.
func corrupt(source *rand.Rand, l *api.Line) {
	if len(l.Kids) > 0 && source.Intn(6) > 0 {
		corrupt(source, &l.Kids[source.Intn(len(l.Kids))])
		return
	}
	at := 0
	if len(l.Tokens) > 0 {
		at = source.Intn(len(l.Tokens))
	}
	switch source.Intn(9) {
	case 0, 1, 2:
		if len(l.Tokens) > 0 {
			l.Tokens[at] = randomToken(source)
		}
	case 3:
		l.Tokens = slices.Insert(l.Tokens, at, randomToken(source))
	case 4:
		l.Tokens = append(l.Tokens, randomToken(source))
	case 5:
		l.Tokens = l.Tokens[:at]
	case 6:
		l.Heading = !l.Heading
	case 7:
		l.Kids = append(l.Kids, cloned(*l, false))
	case 8:
		if len(l.Kids) > 0 {
			l.Kids = append(l.Kids, cloned(l.Kids[source.Intn(len(l.Kids))], false))
		}
	}
}

// numbered gives different numbers and columns to a line and its kids.
func numbered(l *api.Line, next *int) {
	*next++
	l.At = *next
	for i := range l.Tokens {
		*next += 3
		l.Tokens[i].At = *next
	}
	for i := range l.Kids {
		numbered(&l.Kids[i], next)
	}
}

func TestP23_1FirstFaults(t *testing.T) {
	source := rand.New(rand.NewSource(231))
	found := map[api.Errno]int{}
	for range 40000 {
		p := randomProgram(source)
		l, e := program.Line(p)
		if e != api.OK {
			t.Fatalf("%v has no lines: %d", p, e)
		}
		for range source.Intn(4) {
			corrupt(source, &l)
		}
		next := 0
		numbered(&l, &next)
		before := cloned(l, false)
		want := firstFault(l)
		q, f := program.Load(l)
		if f != want || f.Code != api.OK && !reflect.DeepEqual(q, api.Program{}) {
			t.Fatalf("Load(%v): %v, %v, not %v", l, q, f, want)
		}
		if !reflect.DeepEqual(cloned(l, false), before) {
			t.Fatalf("Load changed %v", before)
		}
		found[f.Code]++
	}
	for _, e := range []api.Errno{api.OK, api.ErrSyntax, api.ErrName, api.ErrRange, api.ErrDuplicate} {
		if found[e] < 30 {
			t.Errorf("the result %d came %d times", e, found[e])
		}
	}
}

func TestP23_1Line(t *testing.T) {
	for s, p := range map[string]api.Program{
		sampleSource:                        sample(),
		"program a period 86400\n":          {Name: "a", Period: api.DaySeconds},
		"program a period 1:\n  node b c\n": {Name: "a", Period: 1, Nodes: []api.Node{{Name: "b", Block: "c"}}},
		"program a period 1:\n  node a A/1:\n    param Time 5\n    param on 0.001\n  node a A/1\n  drive a level 1 from analog -1000000000\n  drive a level 2 from multi 16 delayed multi 1\n": {
			Name: "a", Period: 1, Nodes: []api.Node{{Name: "a", Block: "A/1", Params: []api.Param{{Name: "Time", Value: 5000}, {Name: "on", Value: 1}}}, {Name: "a", Block: "A/1"}},
			Drives: []api.Drive{{Point: "a", Level: 1, From: fromConst(analog(-api.MaxAnalog))}, {Point: "a", Level: 2, From: delayed(fromConst(multi(16)), multi(1))}},
		},
		"program a period 1:\n  node b c:\n    param count -1000000000\n    param low 1000000000\n": {Name: "a", Period: 1, Nodes: []api.Node{{Name: "b", Block: "c", Params: []api.Param{{Name: "count", Value: -1000000000}, {Name: "low", Value: api.MaxAnalog}}}}},
	} {
		l, e := program.Line(p)
		got, e2 := printer.Print([]api.Line{l})
		if e != api.OK || e2 != api.OK || got != s {
			t.Errorf("Line(%v): %v, %d, %q, %d, not %q", p, l, e, got, e2, s)
		}
		checkLines(t, p)
	}
	// Programs whose limits are full.
	full := changed(sample(), func(p *api.Program) {
		for len(p.Nodes) < api.MaxNodes {
			p.Nodes = append(p.Nodes, p.Nodes[1])
		}
		for len(p.Drives) < api.MaxPoints {
			p.Drives = append(p.Drives, p.Drives[0])
		}
		for len(p.Nodes[0].Inputs) < api.MaxInputs {
			p.Nodes[0].Inputs = append(p.Nodes[0].Inputs, fromNode("err"))
		}
	})
	checkLines(t, full)
	for i, change := range []func(p *api.Program){
		func(p *api.Program) { p.Nodes = append(p.Nodes, p.Nodes[0]) }, func(p *api.Program) { p.Drives = append(p.Drives, p.Drives[0]) }, func(p *api.Program) { p.Nodes[0].Inputs = append(p.Nodes[0].Inputs, fromNode("err")) },
	} {
		if l, e := program.Line(changed(full, change)); e != api.ErrInvalid || !reflect.DeepEqual(l, api.Line{}) {
			t.Errorf("Line of a program that is too large %d: %d", i, e)
		}
	}
}

func TestP23_1NoLine(t *testing.T) {
	for i, change := range []func(p *api.Program){
		func(p *api.Program) { p.Name = "" }, func(p *api.Program) { p.Name = "A" }, func(p *api.Program) { p.Name = "a b" }, func(p *api.Program) { p.Period = 0 }, func(p *api.Program) { p.Period = -1 }, func(p *api.Program) { p.Period = api.DaySeconds + 1 }, func(p *api.Program) { p.Period = math.MaxInt }, func(p *api.Program) { p.Period = math.MinInt },
		func(p *api.Program) { p.Period = 1 << 61 }, func(p *api.Program) { p.Period = 1<<61 + 5 },
		func(p *api.Program) { p.Nodes[0].Name = "" }, func(p *api.Program) { p.Nodes[0].Name = "A" }, func(p *api.Program) { p.Nodes[0].Block = "" }, func(p *api.Program) { p.Nodes[0].Block = "9a" }, func(p *api.Program) { p.Nodes[0].Block = "a b" }, func(p *api.Program) { p.Nodes[0].Block = strings.Repeat("a", 50) }, func(p *api.Program) { p.Nodes[0].Block = "\xff" },
		func(p *api.Program) { p.Nodes[1].Params[0].Name = "" }, func(p *api.Program) { p.Nodes[1].Params[0].Name = "9" }, func(p *api.Program) { p.Nodes[1].Params[0].Name = "a-b" }, func(p *api.Program) { p.Nodes[1].Params[0].Name = "low" }, func(p *api.Program) { p.Nodes[1].Params[0].Name = "m" },
		func(p *api.Program) { p.Nodes[1].Params[0].Value = api.MaxAnalog + 1 }, func(p *api.Program) { p.Nodes[1].Params[0].Value = math.MinInt64 }, func(p *api.Program) { p.Nodes[2].Params[0].Value = api.MaxAnalog/1000 + 1 }, func(p *api.Program) { p.Nodes[2].Params[0].Value = -api.MaxAnalog/1000 - 1 }, func(p *api.Program) { p.Nodes[2].Params[0].Value = 1<<61 + 60 }, func(p *api.Program) { p.Nodes[2].Params[0].Value = math.MinInt64 },
		func(p *api.Program) { p.Nodes[0].Inputs[0].Point = "A" }, func(p *api.Program) { p.Nodes[0].Inputs[0].Node = "a" }, func(p *api.Program) { p.Nodes[0].Inputs[0].Port = 1 }, func(p *api.Program) { p.Nodes[0].Inputs[0].Const.Kind = api.Analog }, func(p *api.Program) { p.Nodes[0].Inputs[0].Initial.N = 1 }, func(p *api.Program) { p.Nodes[0].Inputs[0].Delayed = true }, func(p *api.Program) { p.Nodes[0].Inputs[0] = api.Link{} }, func(p *api.Program) { p.Nodes[0].Inputs[1].Const.N = api.MaxAnalog + 1 }, func(p *api.Program) { p.Nodes[2].Inputs[0].Initial.N = 2 },
		func(p *api.Program) { p.Drives[0].Point = "" }, func(p *api.Program) { p.Drives[0].Point = "a/b" }, func(p *api.Program) { p.Drives[0].Level = 0 }, func(p *api.Program) { p.Drives[0].Level = 17 }, func(p *api.Program) { p.Drives[0].Level = math.MinInt }, func(p *api.Program) { p.Drives[0].Level = 1<<61 + 3 }, func(p *api.Program) { p.Drives[2].From.Const.N = 17 }, func(p *api.Program) { p.Drives[2].From.Const.N = math.MaxInt64 },
	} {
		if l, e := program.Line(changed(sample(), change)); e != api.ErrInvalid || !reflect.DeepEqual(l, api.Line{}) {
			t.Errorf("Line of the program %d: %v, %d", i, l, e)
		}
	}
}
