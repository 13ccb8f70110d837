package point_test

import (
	"math"
	"math/rand"
	"reflect"
	"regexp"
	"slices"
	"strings"
	"testing"

	"plenum/api"
	"plenum/lexer"
	"plenum/parser"
	"plenum/point"
	"plenum/printer"
	"plenum/units"
)

// word, number and text make tokens without a column.
func word(s string) api.Token  { return api.Token{Kind: api.TokWord, Text: s} }
func number(n int64) api.Token { return api.Token{Kind: api.TokNumber, N: n} }
func text(s string) api.Token  { return api.Token{Kind: api.TokText, Text: s} }

// fault makes a fault.
func fault(e api.Errno, line, col int) api.Fault { return api.Fault{Code: e, Line: line, Col: col} }

// parsed returns the first line of a source.
func parsed(t *testing.T, source string) api.Line {
	t.Helper()
	lines, f := parser.Parse(source)
	if f.Code != api.OK || len(lines) != 1 {
		t.Fatalf("%q: %v", source, f)
	}
	return lines[0]
}

// sourceOf returns a line with kids as a source.
func sourceOf(head string, kids ...string) string {
	if len(kids) > 0 {
		head += ":\n  " + strings.Join(kids, "\n  ")
	}
	return head + "\n"
}

// cloned returns a line in new memory, with nil in place of empty slices.
func cloned(l api.Line) api.Line {
	l.Tokens = append([]api.Token(nil), l.Tokens...)
	kids := l.Kids
	l.Kids = nil
	for _, kid := range kids {
		l.Kids = append(l.Kids, cloned(kid))
	}
	return l
}

// checkLoad tests Load with a line.
func checkLoad(t *testing.T, l api.Line, want api.Point, wantFault api.Fault) {
	t.Helper()
	before := cloned(l)
	p, f := point.Load(l)
	if f != wantFault || !point.Equal(p, want) {
		t.Errorf("Load(%v): %+v, %v, not %+v, %v", before, p, f, want, wantFault)
	}
	if !reflect.DeepEqual(cloned(l), before) {
		t.Errorf("Load changed its argument %v", before)
	}
	if f.Code == api.OK {
		return
	}
	if !reflect.DeepEqual(p, api.Point{}) {
		t.Errorf("Load(%v): %+v with a fault", before, p)
	}
}

func TestP11_1Load(t *testing.T) {
	for s, want := range map[string]api.Point{
		sourceOf("point room analog held", "unit degC", "range -20 to 60", "step 0.5", "default 21"):                                    room(),
		sourceOf("point room analog held", "default 21", "step 0.5", `unit "degC"`, "range -20 to 60"):                                  room(),
		sourceOf("point fan binary output", "default on", "minimum on 60 off 120"):                                                      fan(),
		sourceOf("point fan binary output", "minimum on 60.000 off 120", "default on"):                                                  fan(),
		sourceOf("point mode multi output", "states off heat cool", "default heat"):                                                     mode(),
		sourceOf("point mode multi output", "default heat", "states off heat cool"):                                                     mode(),
		sourceOf("point sensor analog input", "range 0 to 0.001"):                                                                       sensor(),
		sourceOf("point sensor analog input", "step 0", "range 0 to 0.001"):                                                             sensor(),
		sourceOf("point button binary input"):                                                                                           button(),
		"point button binary input:\n":                                                                                                  button(),
		sourceOf("point place multi input", "states here"):                                                                              place(),
		sourceOf("point a analog held", "range 5 to 8"):                                                                                 {Name: "a", Kind: api.Analog, Role: api.Held, Low: 5000, High: 8000, Default: analog(5000)},
		sourceOf("point a analog output", "range 5 to 8", "default 5"):                                                                  {Name: "a", Kind: api.Analog, Role: api.Output, Low: 5000, High: 8000, Default: analog(5000)},
		sourceOf("point a analog output", "default 8", "range -8 to 8"):                                                                 {Name: "a", Kind: api.Analog, Role: api.Output, Low: -8000, High: 8000, Default: analog(8000)},
		sourceOf("point a analog output", "range -1000000000 to 1000000000", "step 1000000000"):                                         {Name: "a", Kind: api.Analog, Role: api.Output, Low: -api.MaxAnalog, High: api.MaxAnalog, Step: api.MaxAnalog, Default: analog(-api.MaxAnalog)},
		sourceOf("point a analog input", `unit "kJ/kg.K"`, "range 0 to 1"):                                                              {Name: "a", Kind: api.Analog, Role: api.Input, Unit: "1000*m2/s2.K", High: 1000},
		sourceOf("point a analog input", `unit "1/1000*m"`, "range 0 to 1"):                                                             {Name: "a", Kind: api.Analog, Role: api.Input, Unit: "mm", High: 1000},
		sourceOf("point a analog input", "unit m/s", "range 0 to 1"):                                                                    {Name: "a", Kind: api.Analog, Role: api.Input, Unit: "m/s", High: 1000},
		sourceOf("point a analog input", "unit one", "range 0 to 1"):                                                                    {Name: "a", Kind: api.Analog, Role: api.Input, Unit: "one", High: 1000},
		sourceOf("point b binary held"):                                                                                                 {Name: "b", Kind: api.Binary, Role: api.Held, Default: binary(0)},
		sourceOf("point b binary held", "default off"):                                                                                  {Name: "b", Kind: api.Binary, Role: api.Held, Default: binary(0)},
		sourceOf("point b binary held", "default on"):                                                                                   {Name: "b", Kind: api.Binary, Role: api.Held, Default: binary(1)},
		sourceOf("point b binary output", "minimum on 0 off 86400"):                                                                     {Name: "b", Kind: api.Binary, Role: api.Output, Default: binary(0), MinOff: 86400},
		sourceOf("point b binary output", "minimum on 86400 off 0"):                                                                     {Name: "b", Kind: api.Binary, Role: api.Output, Default: binary(0), MinOn: 86400},
		sourceOf("point m multi held", "states on off"):                                                                                 {Name: "m", Kind: api.Multi, Role: api.Held, States: []string{"on", "off"}, Default: multi(1)},
		sourceOf("point m multi held", "default sp", "states "+strings.Join(states(16), " ")):                                           {Name: "m", Kind: api.Multi, Role: api.Held, States: states(16), Default: multi(16)},
		sourceOf("point default multi held", "states states default", "default default"):                                                {Name: "default", Kind: api.Multi, Role: api.Held, States: []string{"states", "default"}, Default: multi(2)},
		sourceOf("point "+strings.Repeat("p", 24)+" multi held", "states "+strings.Repeat("s", 24), "default "+strings.Repeat("s", 24)): {Name: strings.Repeat("p", 24), Kind: api.Multi, Role: api.Held, States: []string{strings.Repeat("s", 24)}, Default: multi(1)},
	} {
		checkLoad(t, parsed(t, s), want, api.Fault{})
	}
}

func TestP11_1KidsInAnyOrder(t *testing.T) {
	kids := []string{"unit degC", "range -20 to 60", "step 0.5", "default 21"}
	var permute func(n int)
	permute = func(n int) {
		if n == len(kids) {
			checkLoad(t, parsed(t, sourceOf("point room analog held", kids...)), room(), api.Fault{})
			return
		}
		for i := n; i < len(kids); i++ {
			kids[n], kids[i] = kids[i], kids[n]
			permute(n + 1)
			kids[n], kids[i] = kids[i], kids[n]
		}
	}
	permute(0)
}

func TestP11_1FaultsOfTheHead(t *testing.T) {
	for s, want := range map[string]api.Fault{
		"points a binary held": fault(api.ErrSyntax, 1, 1), "Point a binary held": fault(api.ErrSyntax, 1, 1), "5 a binary held": fault(api.ErrSyntax, 1, 1), `"point" a binary held`: fault(api.ErrSyntax, 1, 1), "device A x": fault(api.ErrSyntax, 1, 1), "( a binary held": fault(api.ErrSyntax, 1, 1),
		"point": fault(api.ErrSyntax, 1, 1), "point 5 real": fault(api.ErrSyntax, 1, 7), `point "a" binary held`: fault(api.ErrSyntax, 1, 7), "point = binary held": fault(api.ErrSyntax, 1, 7), "point 2026-01-01 binary held": fault(api.ErrSyntax, 1, 7),
		"point A real": fault(api.ErrName, 1, 7), "point A": fault(api.ErrName, 1, 7), "point a/b binary held": fault(api.ErrName, 1, 7), "point " + strings.Repeat("a", 25) + " binary held": fault(api.ErrName, 1, 7), "point A binary held more": fault(api.ErrName, 1, 7),
		"point a": fault(api.ErrSyntax, 1, 7), "point a real held": fault(api.ErrSyntax, 1, 9), "point a Analog held": fault(api.ErrSyntax, 1, 9), "point a 1 held": fault(api.ErrSyntax, 1, 9), "point a held binary": fault(api.ErrSyntax, 1, 9), `point a "binary" held`: fault(api.ErrSyntax, 1, 9), "point a null held": fault(api.ErrSyntax, 1, 9),
		"point a binary": fault(api.ErrSyntax, 1, 9), "point  a   binary": fault(api.ErrSyntax, 1, 12), "point a binary in": fault(api.ErrSyntax, 1, 16), "point a binary Held": fault(api.ErrSyntax, 1, 16), "point a binary 3": fault(api.ErrSyntax, 1, 16), `point a binary "held"`: fault(api.ErrSyntax, 1, 16), "point a analog analog": fault(api.ErrSyntax, 1, 16),
		"point a binary held x": fault(api.ErrSyntax, 1, 21), "point a binary held 5 6": fault(api.ErrSyntax, 1, 21), "point a analog held range 0 to 5": fault(api.ErrSyntax, 1, 21),
		// The line comes before its kids.
		"point a binary held x:\n  foo\n": fault(api.ErrSyntax, 1, 21), "point A binary held:\n  default 5\n": fault(api.ErrName, 1, 7), "point:\n  range\n": fault(api.ErrSyntax, 1, 1),
	} {
		checkLoad(t, parsed(t, s), api.Point{}, want)
	}
	checkLoad(t, api.Line{}, api.Point{}, fault(api.ErrSyntax, 0, 1))
	checkLoad(t, api.Line{At: 7, Tokens: []api.Token{}, Heading: true, Kids: []api.Line{{At: 8}}}, api.Point{}, fault(api.ErrSyntax, 7, 1))
	// Numbers and columns are those of the tokens, whatever they are.
	checkLoad(t, api.Line{At: -5, Tokens: []api.Token{{Kind: api.TokWord, Text: "point", At: math.MinInt}}}, api.Point{}, fault(api.ErrSyntax, -5, math.MinInt))
	checkLoad(t, api.Line{Tokens: []api.Token{word("point"), word("a"), word("binary"), word("held")}}, api.Point{Name: "a", Kind: api.Binary, Role: api.Held, Default: binary(0)}, api.Fault{})
	// Tokens of a kind that no line has, and words without letters.
	for i, good := range []api.Token{word("point"), word("a"), word("binary"), word("held")} {
		for _, kind := range []int{0, 7, -1, api.TokText, api.TokSign, api.TokDate, api.TokTime, api.TokNumber} {
			tokens := []api.Token{word("point"), word("a"), word("binary"), word("held")}
			tokens[i] = api.Token{Kind: kind, Text: good.Text, At: 9}
			checkLoad(t, api.Line{At: 3, Tokens: tokens}, api.Point{}, fault(api.ErrSyntax, 3, 9))
		}
		tokens := []api.Token{word("point"), word("a"), word("binary"), word("held")}
		tokens[i] = api.Token{Kind: api.TokWord, At: 9}
		want := fault(api.ErrSyntax, 3, 9)
		if i == 1 {
			want.Code = api.ErrName
		}
		checkLoad(t, api.Line{At: 3, Tokens: tokens}, api.Point{}, want)
	}
}

// kidFault is a kid with the fault that it has behind the given kids. The column is that in the kid.
type kidFault struct {
	kid string
	e   api.Errno
	col int
}

func TestP11_1FaultsOfKids(t *testing.T) {
	many := strings.Join(states(16), " ")
	for head, list := range map[string][]kidFault{
		"point a analog held": {
			{"foo", api.ErrSyntax, 1}, {"Unit m", api.ErrSyntax, 1}, {"5", api.ErrSyntax, 1}, {`"unit" m`, api.ErrSyntax, 1}, {"= unit m", api.ErrSyntax, 1}, {"point a analog held", api.ErrSyntax, 1}, {"states x", api.ErrSyntax, 1}, {"minimum on 5 off 5", api.ErrSyntax, 1}, {"states", api.ErrSyntax, 1},
			{"unit", api.ErrSyntax, 1}, {"unit 5", api.ErrSyntax, 6}, {"unit = m", api.ErrSyntax, 6}, {"unit 10:30", api.ErrSyntax, 6}, {"unit m m", api.ErrSyntax, 8}, {"unit m 5", api.ErrSyntax, 8}, {"unit foot", api.ErrUnknown, 6}, {"unit foot m", api.ErrUnknown, 6}, {`unit "m//s"`, api.ErrSyntax, 6}, {"unit m_s", api.ErrSyntax, 6}, {`unit "m s"`, api.ErrSyntax, 6}, {"unit degC/s", api.ErrType, 6}, {`unit "degC2"`, api.ErrType, 6}, {`unit "m9.m"`, api.ErrRange, 6}, {"unit km9/mm9", api.ErrRange, 6}, {"unit " + strings.Repeat("m", 41), api.ErrSyntax, 6},
			{"range", api.ErrSyntax, 1}, {"range x", api.ErrSyntax, 7}, {"range 0", api.ErrSyntax, 7}, {"range 0 5", api.ErrSyntax, 9}, {"range 0 To 5", api.ErrSyntax, 9}, {`range 0 "to" 5`, api.ErrSyntax, 9}, {"range 0 to", api.ErrSyntax, 9}, {"range 0 to x", api.ErrSyntax, 12}, {"range 5 to 5", api.ErrRange, 12}, {"range 5 to 4.999", api.ErrRange, 12}, {"range 5 to 5 x", api.ErrRange, 12}, {"range 0 to 5 x", api.ErrSyntax, 14}, {"range to 5", api.ErrSyntax, 7}, {"range 08:00 to 5", api.ErrSyntax, 7}, {"range 0 to 08:00", api.ErrSyntax, 12},
			{"step", api.ErrSyntax, 1}, {"step x", api.ErrSyntax, 6}, {"step -0.001", api.ErrRange, 6}, {"step -1 x", api.ErrRange, 6}, {"step 1 x", api.ErrSyntax, 8}, {"step 1 1", api.ErrSyntax, 8},
			{"default", api.ErrSyntax, 1}, {"default on", api.ErrSyntax, 9}, {"default low", api.ErrSyntax, 9}, {`default "5"`, api.ErrSyntax, 9}, {"default 5 5", api.ErrSyntax, 11}, {"default 08:00", api.ErrSyntax, 9}, {"default null", api.ErrSyntax, 9},
		},
		"point a analog input": {{"default 5", api.ErrSyntax, 1}, {"default", api.ErrSyntax, 1}, {"minimum", api.ErrSyntax, 1}},
		"point b binary input": {{"default on", api.ErrSyntax, 1}, {"minimum on 5 off 5", api.ErrSyntax, 1}, {"unit m", api.ErrSyntax, 1}},
		"point b binary held":  {{"minimum on 5 off 5", api.ErrSyntax, 1}, {"range 0 to 5", api.ErrSyntax, 1}, {"step 1", api.ErrSyntax, 1}, {"states on off", api.ErrSyntax, 1}, {"default On", api.ErrSyntax, 9}, {"default 1", api.ErrSyntax, 9}, {"default", api.ErrSyntax, 1}, {"default on on", api.ErrSyntax, 12}, {`default "on"`, api.ErrSyntax, 9}, {"default yes", api.ErrSyntax, 9}, {"default null", api.ErrSyntax, 9}},
		"point b binary output": {
			{"minimum", api.ErrSyntax, 1}, {"minimum 5", api.ErrSyntax, 9}, {"minimum off 5 on 5", api.ErrSyntax, 9}, {"minimum on", api.ErrSyntax, 9}, {"minimum on x", api.ErrSyntax, 12}, {"minimum on 5", api.ErrSyntax, 12}, {"minimum on 5 on 5", api.ErrSyntax, 14}, {"minimum on 5 off", api.ErrSyntax, 14}, {"minimum on 5 off x", api.ErrSyntax, 18}, {"minimum on 5 off 5 5", api.ErrSyntax, 20},
			{"minimum on -1 off", api.ErrRange, 12}, {"minimum on 0.5 off", api.ErrRange, 12}, {"minimum on 86401", api.ErrRange, 12}, {"minimum on 86400.001 off 5", api.ErrRange, 12}, {"minimum on 0 off 86401", api.ErrRange, 18}, {"minimum on 0 off -1", api.ErrRange, 18}, {"minimum on 0 off 0.001 5", api.ErrRange, 18}, {"minimum on 1000000000 off 0", api.ErrRange, 12}, {"minimum on -1000000000 off 0", api.ErrRange, 12}, {"minimum on 00:01 off 0", api.ErrSyntax, 12},
		},
		"point m multi held":   {{"states", api.ErrSyntax, 1}, {"states 5", api.ErrSyntax, 8}, {"states off 5", api.ErrSyntax, 12}, {"states off heat =", api.ErrSyntax, 17}, {"states Off", api.ErrName, 8}, {"states off off", api.ErrDuplicate, 12}, {"states off heat off cool 5", api.ErrDuplicate, 17}, {"states a/b 5", api.ErrName, 8}, {`states "off"`, api.ErrSyntax, 8}, {"states " + many + " sq", api.ErrTooMany, 56}, {"states " + many + " sa", api.ErrTooMany, 56}, {"states " + many + " Sq", api.ErrName, 56}, {"states " + many + " 5", api.ErrSyntax, 56}, {"states " + strings.Repeat("a", 25), api.ErrName, 8}, {"unit m", api.ErrSyntax, 1}, {"step 0", api.ErrSyntax, 1}, {"default", api.ErrSyntax, 1}, {"default 1", api.ErrSyntax, 9}, {"default a b", api.ErrSyntax, 11}, {`default "a"`, api.ErrSyntax, 9}},
		"point m multi output": {{"minimum on 5 off 5", api.ErrSyntax, 1}, {"range 0 to 5", api.ErrSyntax, 1}},
		"point m multi input":  {{"default off", api.ErrSyntax, 1}, {"minimum on 5 off 5", api.ErrSyntax, 1}},
	} {
		for _, c := range list {
			// The kid stands behind the indentation; what follows it has no influence.
			checkLoad(t, parsed(t, sourceOf(head, c.kid)), api.Point{}, fault(c.e, 2, c.col+2))
			checkLoad(t, parsed(t, sourceOf(head, c.kid, "# comment", "foo")), api.Point{}, fault(c.e, 2, c.col+2))
		}
	}
}

func TestP11_1FaultsOfSeveralKids(t *testing.T) {
	for s, want := range map[string]api.Fault{
		sourceOf("point a analog held", "range 0 to 5", "range 0 to 5"): fault(api.ErrDuplicate, 3, 3), sourceOf("point a analog held", "range 0 to 5", "step 1", "range x"): fault(api.ErrDuplicate, 4, 3), sourceOf("point a analog held", "unit m", "unit m"): fault(api.ErrDuplicate, 3, 3), sourceOf("point a analog held", "step 1", "step"): fault(api.ErrDuplicate, 3, 3), sourceOf("point a analog held", "default 9", "range 0 to 5", "default 1"): fault(api.ErrDuplicate, 4, 3), sourceOf("point m multi held", "states a", "states b"): fault(api.ErrDuplicate, 3, 3), sourceOf("point b binary output", "minimum on 1 off 1", "minimum on 1 off 1"): fault(api.ErrDuplicate, 3, 3),
		// The first kid comes first, also if a later one is a repetition.
		sourceOf("point a analog held", "range 5 to 5", "range 0 to 5"): fault(api.ErrRange, 2, 14), sourceOf("point a analog held", "step -1", "foo"): fault(api.ErrRange, 2, 8), sourceOf("point a analog held", "foo", "step -1"): fault(api.ErrSyntax, 2, 3), sourceOf("point a analog held", "foo", "foo"): fault(api.ErrSyntax, 2, 3),
		// What is lacking comes behind all kids, and before the value of the default.
		"point a analog held": fault(api.ErrSyntax, 1, 16), sourceOf("point a analog held", "default 5"): fault(api.ErrSyntax, 1, 16), sourceOf("point a analog held", "unit m", "step 1"): fault(api.ErrSyntax, 1, 16), sourceOf("point a analog held", "unit m", "step -1"): fault(api.ErrRange, 3, 8), "point a analog input": fault(api.ErrSyntax, 1, 16), "point  m   multi held": fault(api.ErrSyntax, 1, 18), sourceOf("point m multi held", "default a"): fault(api.ErrSyntax, 1, 15), "point m multi input": fault(api.ErrSyntax, 1, 15),
		// The value of the default.
		sourceOf("point a analog held", "range 0 to 5", "default 5.001"): fault(api.ErrRange, 3, 11), sourceOf("point a analog held", "default -0.001", "range 0 to 5"): fault(api.ErrRange, 2, 11), sourceOf("point a analog held", "default 9", "range 0 to 5", "foo"): fault(api.ErrSyntax, 4, 3), sourceOf("point a analog held", "default 9", "range 0 to 5", "step -1"): fault(api.ErrRange, 4, 8),
		sourceOf("point m multi held", "states a b", "default c"): fault(api.ErrUnknown, 3, 11), sourceOf("point m multi held", "default A", "states a b"): fault(api.ErrUnknown, 2, 11), sourceOf("point m multi held", "default null", "states a b"): fault(api.ErrUnknown, 2, 11), sourceOf("point m multi held", "default c", "states a a"): fault(api.ErrDuplicate, 3, 12), sourceOf("point m multi held", "default a/b", "states a b"): fault(api.ErrUnknown, 2, 11),
		// Kids are no headings, and have no kids.
		sourceOf("point a analog held", "range 0 to 5:"): fault(api.ErrSyntax, 2, 14), sourceOf("point a analog held", "range 0 to 5 x:"): fault(api.ErrSyntax, 2, 16), sourceOf("point a analog held", "range 5 to 5:"): fault(api.ErrRange, 2, 14), sourceOf("point a analog held", "unit:", "  foo"): fault(api.ErrSyntax, 2, 3), sourceOf("point a analog held", "unit m:", "  foo"): fault(api.ErrSyntax, 2, 8), sourceOf("point a analog held", "range 0 to 5", "default 9:"): fault(api.ErrSyntax, 3, 11), sourceOf("point m multi held", "states a b:", "  c"): fault(api.ErrSyntax, 2, 12), sourceOf("point b binary output", "minimum on 1 off 1:"): fault(api.ErrSyntax, 2, 20), sourceOf("point b binary output", "default on", "default on:"): fault(api.ErrDuplicate, 3, 3), sourceOf("point b binary output", "minimum on 1 off:"): fault(api.ErrSyntax, 2, 16),
	} {
		checkLoad(t, parsed(t, s), api.Point{}, want)
	}
}

// The lines that no source has.
func TestP11_1StrangeLines(t *testing.T) {
	head := func(list string, kids ...api.Line) api.Line {
		l := api.Line{At: 5, Kids: kids}
		for i, s := range strings.Fields(list) {
			l.Tokens = append(l.Tokens, api.Token{Kind: api.TokWord, Text: s, At: 10*i + 10})
		}
		return l
	}
	span := api.Line{At: 6, Tokens: []api.Token{word("range"), number(-5), word("to"), number(5)}}
	plain := api.Point{Name: "a", Kind: api.Analog, Role: api.Held, Low: -5, High: 5, Default: analog(-5)}
	// Whether the first line is a heading has no influence.
	checkLoad(t, head("point a analog held", span), plain, api.Fault{})
	heading := head("point a analog held", span)
	heading.Heading = true
	checkLoad(t, heading, plain, api.Fault{})
	// A kid without tokens, one that is no heading but has kids, and a heading without kids.
	checkLoad(t, head("point a analog held", span, api.Line{At: 7}), api.Point{}, fault(api.ErrSyntax, 7, 1))
	checkLoad(t, head("point a analog held", api.Line{At: 7, Heading: true, Kids: []api.Line{span}}, span), api.Point{}, fault(api.ErrSyntax, 7, 1))
	kids := cloned(span)
	kids.Tokens[3].At, kids.Kids = 33, []api.Line{{}}
	checkLoad(t, head("point a analog held", kids), api.Point{}, fault(api.ErrSyntax, 6, 33))
	kids.Heading, kids.Kids = true, nil
	checkLoad(t, head("point a analog held", kids), api.Point{}, fault(api.ErrSyntax, 6, 33))
	kids.Heading, kids.Kids = false, []api.Line{}
	checkLoad(t, head("point a analog held", kids), plain, api.Fault{})
	// Tokens of other kinds that have the text of a word, and a word without letters.
	for _, kind := range []int{0, 7, -1, api.TokText, api.TokSign, api.TokDate} {
		for i := range 4 {
			l := cloned(span)
			l.Tokens[i].Kind, l.Tokens[i].At = kind, 44
			checkLoad(t, head("point a analog held", l), api.Point{}, fault(api.ErrSyntax, 6, 44))
		}
		l := api.Line{At: 6, Tokens: []api.Token{word("default"), {Kind: kind, Text: "on", At: 44}}}
		checkLoad(t, head("point a binary held", l), api.Point{}, fault(api.ErrSyntax, 6, 44))
	}
	checkLoad(t, head("point a analog held", api.Line{At: 6, Tokens: []api.Token{{Kind: api.TokWord, At: 3}}}), api.Point{}, fault(api.ErrSyntax, 6, 3))
	checkLoad(t, head("point a binary held", api.Line{At: 6, Tokens: []api.Token{word("default"), {Kind: api.TokWord, At: 3}}}), api.Point{}, fault(api.ErrSyntax, 6, 3))
	checkLoad(t, head("point a multi held", api.Line{At: 6, Tokens: []api.Token{word("states"), {Kind: api.TokWord, At: 3}}}), api.Point{}, fault(api.ErrName, 6, 3))
	checkLoad(t, head("point a analog held", api.Line{At: 6, Tokens: []api.Token{word("unit"), {Kind: api.TokText, At: 3}}}), api.Point{}, fault(api.ErrSyntax, 6, 3))
	// Numbers that no line has.
	extreme := api.Line{Tokens: []api.Token{word("range"), number(math.MinInt64), word("to"), number(math.MaxInt64)}}
	checkLoad(t, head("point a analog input", extreme), api.Point{Name: "a", Kind: api.Analog, Role: api.Input, Low: math.MinInt64, High: math.MaxInt64}, api.Fault{})
	for _, n := range []int64{math.MinInt64, math.MaxInt64, math.MaxInt64 / 1000 * 1000, math.MinInt64 / 1000 * 1000, -1000, 86401000, 1, 999, 86399999} {
		l := api.Line{Tokens: []api.Token{word("minimum"), word("on"), {Kind: api.TokNumber, N: n, At: 3}, word("off"), number(0)}}
		checkLoad(t, head("point a binary output", l), api.Point{}, fault(api.ErrRange, 0, 3))
		l.Tokens[2], l.Tokens[4] = number(0), l.Tokens[2]
		checkLoad(t, head("point a binary output", l), api.Point{}, fault(api.ErrRange, 0, 3))
	}
	// Very many tokens and kids.
	checkLoad(t, head("point a multi held", api.Line{At: 6, Tokens: slices.Repeat([]api.Token{word("states")}, 1<<16)}), api.Point{}, fault(api.ErrDuplicate, 6, 0))
	checkLoad(t, head("point a multi held", slices.Repeat([]api.Line{span}, 1<<16)...), api.Point{}, fault(api.ErrSyntax, 6, 0))
	deep := span
	for range 1 << 16 {
		deep = api.Line{Tokens: span.Tokens, Kids: []api.Line{deep}, At: 6}
	}
	if p, f := point.Load(head("point a analog held", deep)); f != fault(api.ErrSyntax, 6, 0) || !point.Equal(p, api.Point{}) {
		t.Errorf("deep lines: %v, %v", p, f)
	}
}

// nameForm is the form of names.
var nameForm = regexp.MustCompile(`^[a-z][a-z0-9_]{0,23}$`)

// tokenError returns the error of a token, with those in front of it, by the definition of the faults. What it has to be is a word itself, or a capital word of the chapter.
func tokenError(want string, before []api.Token, tok api.Token) api.Errno {
	isWord, isNumber := tok.Kind == api.TokWord, tok.Kind == api.TokNumber
	whole := tok.N / 1000
	switch want {
	case "NAME":
		if isWord && !nameForm.MatchString(tok.Text) {
			return api.ErrName
		}
	case "KIND":
		isWord = isWord && slices.Contains([]string{"analog", "binary", "multi"}, tok.Text)
	case "ROLE":
		isWord = isWord && slices.Contains([]string{"input", "output", "held"}, tok.Text)
	case "SWITCH":
		isWord = isWord && slices.Contains([]string{"on", "off"}, tok.Text)
	case "STATE":
		same := slices.ContainsFunc(before[1:], func(t api.Token) bool { return t.Text == tok.Text })
		switch {
		case isWord && !nameForm.MatchString(tok.Text):
			return api.ErrName
		case isWord && len(before) > 16:
			return api.ErrTooMany
		case isWord && same:
			return api.ErrDuplicate
		}
	case "WORD":
	case "UNIT":
		if _, e := units.Parse(tok.Text); (isWord || tok.Kind == api.TokText) && e != api.OK {
			return e
		}
		isWord = isWord || tok.Kind == api.TokText
	case "NUMBER", "HIGH", "STEP", "N":
		switch {
		case !isNumber:
			return api.ErrSyntax
		case want == "HIGH" && tok.N <= before[1].N, want == "STEP" && tok.N < 0, want == "N" && (whole*1000 != tok.N || whole < 0 || whole > 86400):
			return api.ErrRange
		}
		return api.OK
	default:
		isWord = isWord && tok.Text == want
	}
	if !isWord {
		return api.ErrSyntax
	}
	return api.OK
}

// lineFault returns the first fault of the tokens of a line from an index on.
func lineFault(l api.Line, from int, form string) api.Fault {
	list := strings.Fields(form)
	last := 1
	if len(l.Tokens) > 0 {
		last = l.Tokens[len(l.Tokens)-1].At
	}
	for i := from; i < max(len(l.Tokens), len(list)); i++ {
		if i >= len(l.Tokens) {
			return fault(api.ErrSyntax, l.At, last)
		}
		want := list[min(i, len(list)-1)]
		if i >= len(list) && want != "STATE" {
			return fault(api.ErrSyntax, l.At, l.Tokens[i].At)
		}
		if e := tokenError(want, l.Tokens[:i], l.Tokens[i]); e != api.OK {
			return fault(e, l.At, l.Tokens[i].At)
		}
	}
	return api.Fault{}
}

// kidForm returns the form of a kid for a point, or nothing if it is not for it.
func kidForm(kid, kind, role string) string {
	forms := map[string]string{
		"unit analog": "unit UNIT", "range analog": "range NUMBER to HIGH", "step analog": "step STEP", "states multi": "states STATE",
		"default analog": "default NUMBER", "default binary": "default SWITCH", "default multi": "default WORD", "minimum binary": "minimum on N off N",
	}
	if kid == "default" && role == "input" || kid == "minimum" && role != "output" {
		return ""
	}
	return forms[kid+" "+kind]
}

// firstFault is the definition of the faults.
func firstFault(l api.Line) api.Fault {
	if f := lineFault(l, 0, "point NAME KIND ROLE"); f.Code != api.OK {
		return f
	}
	kind, role := l.Tokens[2].Text, l.Tokens[3].Text
	kids := map[string]api.Line{}
	for _, kid := range l.Kids {
		if len(kid.Tokens) == 0 {
			return fault(api.ErrSyntax, kid.At, 1)
		}
		word := kid.Tokens[0].Text
		form := kidForm(word, kind, role)
		if kid.Tokens[0].Kind != api.TokWord || form == "" {
			return fault(api.ErrSyntax, kid.At, kid.Tokens[0].At)
		}
		if len(kids[word].Tokens) > 0 {
			return fault(api.ErrDuplicate, kid.At, kid.Tokens[0].At)
		}
		if f := lineFault(kid, 1, form); f.Code != api.OK {
			return f
		}
		if kid.Heading || len(kid.Kids) > 0 {
			return fault(api.ErrSyntax, kid.At, kid.Tokens[len(kid.Tokens)-1].At)
		}
		kids[word] = kid
	}
	if kind == "analog" && len(kids["range"].Tokens) == 0 || kind == "multi" && len(kids["states"].Tokens) == 0 {
		return fault(api.ErrSyntax, l.At, l.Tokens[3].At)
	}
	if d := kids["default"]; len(d.Tokens) > 0 {
		span, n := kids["range"].Tokens, d.Tokens[1].N
		isState := func(t api.Token) bool { return t.Text == d.Tokens[1].Text }
		switch {
		case kind == "analog" && (n < span[1].N || n > span[3].N):
			return fault(api.ErrRange, d.At, d.Tokens[1].At)
		case kind == "multi" && !slices.ContainsFunc(kids["states"].Tokens[1:], isState):
			return fault(api.ErrUnknown, d.At, d.Tokens[1].At)
		}
	}
	return api.Fault{}
}

// pick returns one of some strings.
func pick(source *rand.Rand, list ...string) string { return list[source.Intn(len(list))] }

// randomTokens returns the tokens of a line with a few changes at times.
func randomTokens(t *testing.T, source *rand.Rand, list string) []api.Token {
	scanned, f := lexer.Scan(list)
	if f.Code != api.OK {
		t.Fatalf("%q: %v", list, f)
	}
	tokens := scanned.Tokens
	others := []api.Token{word("to"), word("on"), word("off"), word("a"), word("b"), word("A"), word("m"), word("foot"), word("range"), number(0), number(1000), number(2500), number(-3000), number(86401000), text("m.s"), text("m.degC"), text("on"), {Kind: api.TokSign, Text: "="}, {Kind: api.TokTime, N: 1000}}
	if source.Intn(12) == 0 {
		i := source.Intn(len(tokens))
		tokens = slices.Insert(tokens, i+1, others[source.Intn(len(others))])
	}
	if source.Intn(12) == 0 {
		tokens[source.Intn(len(tokens))] = others[source.Intn(len(others))]
	}
	if source.Intn(15) == 0 {
		i := source.Intn(len(tokens))
		tokens = slices.Delete(tokens, i, i+1)
	}
	for i := range tokens {
		tokens[i].At = 10*i + 1
	}
	return tokens
}

// randomLine returns a line of a point, often with a fault.
func randomLine(t *testing.T, source *rand.Rand) api.Line {
	kind, role := pick(source, "analog", "binary", "multi"), pick(source, "input", "output", "held")
	l := api.Line{At: 1, Heading: true, Tokens: randomTokens(t, source, "point a "+kind+" "+role)}
	kids := []string{}
	add := func(percent int, kid string) {
		if source.Intn(100) < percent {
			kids = append(kids, kid)
		}
	}
	share := func(suits bool) int {
		if suits {
			return 48
		}
		return 1
	}
	for range 1 + source.Intn(8)/7 {
		add(share(kind == "analog"), "unit "+pick(source, "m", "degC", "kWh", `"kJ/kg.K"`, "foot", "degC/s", `"m9.m"`, "m/s"))
		add(2*share(kind == "analog"), "range "+pick(source, "-5", "0", "1", "2")+" to "+pick(source, "2", "3", "100"))
		add(share(kind == "analog"), "step "+pick(source, "0", "0.5", "5", "-1"))
		add(2*share(kind == "multi"), "states "+pick(source, "a", "a b", "c b a", strings.Join(states(16), " "), strings.Join(states(17), " ")))
		add(share(role != "input"), "default "+map[string]string{"analog": pick(source, "1", "2", "50", "-9"), "binary": pick(source, "on", "off"), "multi": pick(source, "a", "b", "sc")}[kind])
		add(share(kind == "binary" && role == "output"), "minimum on "+pick(source, "0", "60", "86400", "0.5")+" off "+pick(source, "0", "5"))
	}
	source.Shuffle(len(kids), func(i, k int) { kids[i], kids[k] = kids[k], kids[i] })
	for i, kid := range kids {
		k := api.Line{At: i + 2, Tokens: randomTokens(t, source, kid), Heading: source.Intn(40) == 0}
		if source.Intn(40) == 0 {
			k.Kids = []api.Line{{At: 99}}
		}
		l.Kids = append(l.Kids, k)
	}
	return l
}

func TestP11_1FirstFaults(t *testing.T) {
	source := rand.New(rand.NewSource(111))
	found := map[api.Errno]int{}
	for range 60000 {
		l := randomLine(t, source)
		want := firstFault(l)
		p, f := point.Load(l)
		if f != want {
			t.Fatalf("Load(%v): %+v, %v, not %v", l, p, f, want)
		}
		found[f.Code]++
		if f.Code == api.OK {
			checkLoaded(t, p)
		}
	}
	for _, e := range []api.Errno{api.OK, api.ErrSyntax, api.ErrName, api.ErrDuplicate, api.ErrUnknown, api.ErrType, api.ErrRange, api.ErrTooMany} {
		if found[e] < 30 {
			t.Errorf("the result %d came %d times", e, found[e])
		}
	}
}

// checkLoaded tests the consequences for a point that was loaded: it is valid, and its canonical lines give it again.
func checkLoaded(t *testing.T, p api.Point) {
	t.Helper()
	if e := point.Check(p); e != api.OK {
		t.Fatalf("Load returned %+v: %d", p, e)
	}
	l, e := point.Line(p)
	again, f := point.Load(l)
	if e != api.OK || f != (api.Fault{}) || !point.Equal(again, p) {
		t.Fatalf("the lines %v of %+v: %d, %v, %+v", l, p, e, f, again)
	}
	source, e := printer.Print([]api.Line{l})
	if e != api.OK {
		t.Fatalf("the lines %v of %+v cannot be printed: %d", l, p, e)
	}
	if again, f := point.Load(parsed(t, source)); f.Code != api.OK || !point.Equal(again, p) {
		t.Fatalf("%q: %+v, %v", source, again, f)
	}
}

func TestP11_2Line(t *testing.T) {
	for s, p := range map[string]api.Point{
		sourceOf("point room analog held", "unit degC", "range -20 to 60", "step 0.5", "default 21"): room(),
		sourceOf("point fan binary output", "default on", "minimum on 60 off 120"):                   fan(),
		sourceOf("point mode multi output", "states off heat cool", "default heat"):                  mode(),
		sourceOf("point sensor analog input", "range 0 to 0.001"):                                    sensor(),
		sourceOf("point button binary input"):                                                        button(),
		sourceOf("point place multi input", "states here"):                                           place(),
		sourceOf("point room analog held", "range -20 to 60"):                                        changed(room(), func(p *api.Point) { p.Unit, p.Step, p.Default = "", 0, analog(-20000) }),
		sourceOf("point room analog held", "unit m2/s2", "range -20 to 60", "default 0"):             changed(room(), func(p *api.Point) { p.Unit, p.Step, p.Default = "m2/s2", 0, analog(0) }),
		sourceOf("point room analog output", `unit "1/3600*m3/s"`, "range 0 to 60", "step 0.001"): changed(room(), func(p *api.Point) {
			p.Unit, p.Role, p.Step, p.Low, p.Default = "1/3600*m3/s", api.Output, 1, 0, analog(0)
		}),
		sourceOf("point room analog input", `unit "g.K"`, "range -1000000000 to 60"): changed(room(), func(p *api.Point) {
			p.Unit, p.Role, p.Step, p.Low, p.Default = "g.K", api.Input, 0, -api.MaxAnalog, api.Value{}
		}),
		sourceOf("point fan binary output", "minimum on 0 off 86400"):                            changed(fan(), func(p *api.Point) { p.MinOn, p.MinOff, p.Default = 0, 86400, binary(0) }),
		sourceOf("point fan binary output", "minimum on 1 off 0"):                                changed(fan(), func(p *api.Point) { p.MinOn, p.MinOff, p.Default = 1, 0, binary(0) }),
		sourceOf("point fan binary output"):                                                      changed(fan(), func(p *api.Point) { p.MinOn, p.MinOff, p.Default = 0, 0, binary(0) }),
		sourceOf("point fan binary held", "default on"):                                          changed(fan(), func(p *api.Point) { p.MinOn, p.MinOff, p.Role = 0, 0, api.Held }),
		sourceOf("point mode multi output", "states off heat cool"):                              changed(mode(), func(p *api.Point) { p.Default = multi(1) }),
		sourceOf("point mode multi held", "states "+strings.Join(states(16), " "), "default sp"): changed(mode(), func(p *api.Point) { p.States, p.Default, p.Role = states(16), multi(16), api.Held }),
	} {
		l, e := point.Line(p)
		got, e2 := printer.Print([]api.Line{l})
		if e != api.OK || e2 != api.OK || got != s {
			t.Errorf("Line(%+v): %v, %d, %q, %d, not %q", p, l, e, got, e2, s)
		}
		// Apart from the numbers of lines and the columns it is what is read.
		want := parsed(t, s)
		want.At = 0
		for _, kid := range append([]api.Line{want}, want.Kids...) {
			for i := range kid.Tokens {
				kid.Tokens[i].At = 0
			}
		}
		for i := range want.Kids {
			want.Kids[i].At = 0
		}
		if !reflect.DeepEqual(cloned(l), cloned(want)) {
			t.Errorf("Line(%+v): %v, not %v", p, l, want)
		}
	}
}

func TestP11_4LinesAreLoaded(t *testing.T) {
	source := rand.New(rand.NewSource(114))
	for _, p := range samples() {
		checkLoaded(t, p)
	}
	for range 20000 {
		p := randomPoint(source)
		checkLoaded(t, p)
	}
}

// All possible units that are printed are loaded as they are, as a word or as a text.
func TestP11_4Units(t *testing.T) {
	for _, unit := range append(units.Names(), "m2", "m2/s2", "one/s", "2*one", "1/2*m", "m.s", "kJ/kg.K", "kWh/d", "l/s", "m3/h", "W/m2.K", "100000000000/99999999999*one/m9.g9.s9.K9") {
		l := parsed(t, sourceOf("point a analog input", `unit "`+unit+`"`, "range 0 to 1"))
		p, f := point.Load(l)
		if f.Code != api.OK {
			t.Errorf("unit %s: %v", unit, f)
		}
		checkLoaded(t, p)
	}
}

func TestP11Memory(t *testing.T) {
	p := mode()
	l, _ := point.Line(p)
	want := cloned(l)
	other, _ := point.Line(p)
	// No two parts of a result share memory, nor does it share any with the argument.
	for _, list := range [][]api.Token{other.Tokens, other.Kids[0].Tokens, other.Kids[1].Tokens} {
		_ = append(list, word("more"))
	}
	other.Tokens[0], other.Kids[0].Tokens[1] = word("spoiled"), word("spoiled")
	if !reflect.DeepEqual(other.Kids[1], want.Kids[1]) || !reflect.DeepEqual(cloned(l), want) || !point.Equal(p, mode()) {
		t.Errorf("%v, %v, %v", l, other, p)
	}
	first, _ := point.Load(l)
	second, _ := point.Load(l)
	second.States[0] = "spoiled"
	if !point.Equal(first, p) || !reflect.DeepEqual(cloned(l), want) {
		t.Errorf("%v, %v", first, l)
	}
	before := changed(p)
	point.Check(p)
	point.Fits(p, multi(2))
	point.Limit(p, multi(9))
	point.State(p, "cool")
	point.Equal(p, before)
	if !reflect.DeepEqual(p, before) {
		t.Errorf("changed argument: %v", p)
	}
}
