package printer_test

import (
	"fmt"
	"math/rand"
	"reflect"
	"regexp"
	"slices"
	"strings"
	"testing"

	"plenum/api"
	"plenum/lexer"
	"plenum/parser"
	"plenum/printer"
)

// word, number, text, clock, date and sign make tokens without a column.
func word(s string) api.Token  { return api.Token{Kind: api.TokWord, Text: s} }
func number(n int64) api.Token { return api.Token{Kind: api.TokNumber, N: n} }
func text(s string) api.Token  { return api.Token{Kind: api.TokText, Text: s} }
func clock(n int64) api.Token  { return api.Token{Kind: api.TokTime, N: n} }
func date(s string) api.Token  { return api.Token{Kind: api.TokDate, Text: s} }
func sign(s string) api.Token  { return api.Token{Kind: api.TokSign, Text: s} }

// row makes a line that is no heading, head a heading.
func row(tokens ...api.Token) api.Line { return api.Line{Tokens: tokens} }
func head(l api.Line, kids ...api.Line) api.Line {
	l.Heading, l.Kids = true, kids
	return l
}

// nested returns a line that lies within so many headings.
func nested(l api.Line, headings int) []api.Line {
	list := []api.Line{l}
	for range headings {
		list = []api.Line{head(row(word("a")), list...)}
	}
	return list
}

// clean returns a tree with nil in place of empty slices, in new memory.
func clean(list []api.Line) []api.Line {
	var result []api.Line
	for _, l := range list {
		l.Tokens = append([]api.Token(nil), l.Tokens...)
		l.Kids = clean(l.Kids)
		result = append(result, l)
	}
	return result
}

// placed returns a tree in which all places are the given one.
func placed(list []api.Line, place int) []api.Line {
	result := clean(list)
	for i := range result {
		l := &result[i]
		l.At, l.Kids = place, placed(l.Kids, place)
		for j := range l.Tokens {
			l.Tokens[j].At = place
		}
	}
	return result
}

// same reports whether two trees are equal, with their places, where nil and empty slices are equivalent.
func same(a, b []api.Line) bool { return reflect.DeepEqual(clean(a), clean(b)) }

// The rules of blanks, as regular expressions, where the byte 1 stands between two tokens.
var (
	call   = regexp.MustCompile(`(^|\x01)([A-Za-z][A-Za-z0-9_/]*)\x01\(`)
	before = regexp.MustCompile(`\x01([),:])`)
	behind = regexp.MustCompile(`\(\x01`)
)

// lineText is the definition of the canonical text of possible tokens.
func lineText(tokens []api.Token) string {
	var parts []string
	for _, t := range tokens {
		s, _ := lexer.Spell(t)
		parts = append(parts, s)
	}
	joined := call.ReplaceAllString(strings.Join(parts, "\x01"), "$1$2(")
	joined = behind.ReplaceAllString(before.ReplaceAllString(joined, "$1"), "(")
	return strings.ReplaceAll(joined, "\x01", " ")
}

// sourceText is the definition of the canonical source of a tree that can be printed.
func sourceText(list []api.Line) string {
	lines, depths := parser.Flat(list)
	source := ""
	for i, l := range lines {
		source += strings.Repeat("  ", depths[i]) + lineText(l.Tokens)
		if l.Heading {
			source += ":"
		}
		source += "\n"
	}
	return source
}

// check is the definition of Check.
func check(list []api.Line) api.Errno {
	lines, depths := parser.Flat(list)
	for i, l := range lines {
		n := len(l.Tokens)
		kids := i+1 < len(lines) && depths[i+1] > depths[i]
		if n == 0 || kids && !l.Heading || !l.Heading && l.Tokens[n-1].Kind == api.TokSign && l.Tokens[n-1].Text == ":" {
			return api.ErrSyntax
		}
		for _, t := range l.Tokens {
			if !lexer.Valid(t) {
				return api.ErrSyntax
			}
		}
	}
	for i, l := range lines {
		if depths[i] > 6 || len(l.Tokens) > 64 || l.Heading && len(l.Tokens) > 63 {
			return api.ErrTooMany
		}
	}
	source := sourceText(list)
	if len(source) > 65536 {
		return api.ErrTooMany
	}
	for _, s := range strings.Split(source, "\n") {
		if len(s) > 1000 {
			return api.ErrTooMany
		}
	}
	return api.OK
}

// numbered is the definition of Number for trees that can be printed.
func numbered(list []api.Line) []api.Line {
	next := 1
	var visit func(list []api.Line, blanks int) []api.Line
	visit = func(list []api.Line, blanks int) []api.Line {
		result := clean(list)
		for i := range result {
			l := &result[i]
			l.At = next
			next++
			for j := range l.Tokens {
				spelled, _ := lexer.Spell(l.Tokens[j])
				l.Tokens[j].At = blanks + len(lineText(l.Tokens[:j+1])) - len(spelled) + 1
			}
			l.Kids = visit(l.Kids, blanks+2)
		}
		return result
	}
	return visit(list, 0)
}

// possible are tokens of all kinds.
func possible() []api.Token {
	return []api.Token{
		word("a"), word("Zz_/9"), word(strings.Repeat("w", 49)), number(0), number(-1), number(21500), number(api.MaxAnalog), text("x  y"), text("(:,#)"), clock(0), clock(450), clock(1439), date("2026-11-18"), date("*-*-*"), date("*-12-25"),
		sign("("), sign(")"), sign(","), sign("="), sign(":"), sign("<"), sign(">"),
	}
}

// impossible are tokens that no line has.
func impossible() []api.Token {
	return []api.Token{
		{}, {Text: "a"}, {Kind: 7, Text: "a"}, {Kind: -1}, word(""), word("1"), word("a b"), word("a:"), word("a\n"), word(strings.Repeat("w", 50)), {Kind: api.TokWord, Text: "a", N: 1},
		number(api.MaxAnalog + 1), number(-1 << 63), {Kind: api.TokNumber, Text: "1", N: 1000}, text(""), text(" a"), text("a\"b"), text(strings.Repeat("x", 41)), {Kind: api.TokText, Text: "a", N: 1}, clock(-1), clock(1440), {Kind: api.TokTime, Text: "00:00"}, date("2026-13-01"), date(""), date("5"), sign(""), sign("*"), sign("#"), sign("::"), {Kind: api.TokSign, Text: ":", N: 1},
	}
}

// randomTree returns a tree that can perhaps be printed. The rarer faults are, the more often it can.
func randomTree(source *rand.Rand, depth, rare int) []api.Line {
	var list []api.Line
	for range 1 + source.Intn(4) {
		l := api.Line{Heading: source.Intn(2) == 0, At: source.Intn(9)}
		for range 1 + source.Intn(6) {
			token := possible()[source.Intn(len(possible()))]
			token.At = source.Intn(100)
			l.Tokens = append(l.Tokens, token)
		}
		if !l.Heading && source.Intn(rare) > 0 && l.Tokens[len(l.Tokens)-1].Text == ":" {
			l.Tokens = append(l.Tokens, word("b"))
		}
		switch source.Intn(rare) {
		case 0:
			l.Tokens[source.Intn(len(l.Tokens))] = impossible()[source.Intn(len(impossible()))]
		case 1:
			l.Tokens = nil
		case 2:
			l.Tokens = slices.Repeat(l.Tokens[:1], 60+source.Intn(6))
		case 3:
			l.Tokens = slices.Repeat([]api.Token{text(strings.Repeat("x", 40))}, 23)
			l.Tokens = append(l.Tokens, word(strings.Repeat("w", 1+source.Intn(12))))
		}
		if depth > 0 && source.Intn(3) == 0 && (l.Heading || source.Intn(rare) == 0) {
			l.Kids = randomTree(source, depth-1, rare)
		}
		list = append(list, l)
	}
	return list
}

// printable returns trees that can be printed.
func printable() [][]api.Line {
	source := rand.New(rand.NewSource(9))
	list := [][]api.Line{nil, {}, {row(word("a"))}, {head(row(sign(":")))}, nested(row(word("b")), 6), {head(row(word("a")), head(row(word("b")))), row(word("c"))}}
	for len(list) < 1500 {
		if tree := randomTree(source, 6, 100); check(tree) == api.OK {
			list = append(list, tree)
		}
	}
	return list
}

func TestP9_1Line(t *testing.T) {
	for _, c := range []struct {
		tokens []api.Token
		want   string
	}{
		{nil, ""}, {[]api.Token{}, ""}, {[]api.Token{word("a")}, "a"}, {[]api.Token{sign(":")}, ":"}, {[]api.Token{number(21500)}, "21.5"}, {[]api.Token{text("x  y")}, `"x  y"`}, {[]api.Token{clock(425)}, "07:05"}, {[]api.Token{date("*-12-25")}, "*-12-25"},
		{[]api.Token{word("fan"), sign("="), word("and"), sign("("), word("a"), sign(","), word("b"), sign(")")}, "fan = and(a, b)"},
		// A word and the sign ( behind it, and other tokens in front of it.
		{[]api.Token{word("a"), sign("("), sign("("), number(1000), sign("("), sign(")"), sign("(")}, "a((1 () ("},
		{[]api.Token{text("a"), sign("("), date("*-*-*"), sign("("), clock(0), sign("(")}, `"a" (*-*-* (00:00 (`}, {[]api.Token{sign("="), sign("("), sign(","), sign("("), sign(":"), sign("("), sign("<"), sign("(")}, "= (, (: (< ("},
		{[]api.Token{word("a"), sign(":"), sign(":"), sign(")"), sign(","), number(-500), sign(":"), number(5000)}, "a::), -0.5: 5"}, {[]api.Token{sign("("), sign("="), sign("<"), sign(">"), sign(")"), word("a")}, "(= < >) a"}, {[]api.Token{sign(","), sign("("), sign(":")}, ", (:"},
		{slices.Repeat([]api.Token{word("a")}, 5000), strings.TrimSuffix(strings.Repeat("a ", 5000), " ")},
	} {
		for _, at := range []int{0, 7, -1} {
			tokens := placed([]api.Line{row(c.tokens...)}, at)[0].Tokens
			if got, e := printer.Line(tokens); e != api.OK || got != c.want {
				t.Errorf("Line(%s): %.200q, %d, not %.200q", clip(tokens), got, e, c.want)
			}
		}
	}
}

func TestP9_1LineNeighbours(t *testing.T) {
	for _, a := range possible() {
		for _, b := range possible() {
			for _, c := range possible() {
				tokens := []api.Token{a, b, c}
				if got, e := printer.Line(tokens); e != api.OK || got != lineText(tokens) {
					t.Errorf("Line(%v): %q, %d, not %q", tokens, got, e, lineText(tokens))
				}
			}
		}
	}
}

func TestP9_1LineErrors(t *testing.T) {
	for _, bad := range impossible() {
		for _, tokens := range [][]api.Token{{bad}, {word("a"), bad}, {bad, word("a")}, {word("a"), bad, sign(":")}} {
			if got, e := printer.Line(tokens); e != api.ErrSyntax || got != "" {
				t.Errorf("Line(%v): %q, %d", tokens, got, e)
			}
		}
	}
}

// clip returns the begin of the text of a value.
func clip(v any) string {
	s := fmt.Sprint(v)
	return s[:min(len(s), 300)]
}

// checkPrint compares what Check, Print and Number say of a tree with what they should say.
func checkPrint(t *testing.T, list []api.Line, want string, wanted api.Errno) {
	t.Helper()
	if e := printer.Check(list); e != wanted {
		t.Errorf("Check(%s): %d, not %d", clip(list), e, wanted)
	}
	if got, e := printer.Print(list); e != wanted || got != want {
		t.Errorf("Print(%s): %.300q, %d, not %.300q, %d", clip(list), got, e, want, wanted)
	}
	if got, e := printer.Number(list); e != wanted || e != api.OK && len(got) != 0 {
		t.Errorf("Number(%s): %s, %d, not %d", clip(list), clip(got), e, wanted)
	}
}

func TestP9_1Print(t *testing.T) {
	for _, c := range []struct {
		list []api.Line
		want string
	}{
		{nil, ""}, {[]api.Line{}, ""}, {[]api.Line{row(word("a"))}, "a\n"}, {[]api.Line{head(row(word("a")))}, "a:\n"}, {[]api.Line{head(row(word("a"))), row(word("b")), row(word("b"))}, "a:\nb\nb\n"},
		{[]api.Line{head(row(word("point"), word("temp")), row(word("unit"), word("degC")))}, "point temp:\n  unit degC\n"},
		{[]api.Line{head(row(word("a")), head(row(word("b")), row(word("c")), row(word("d"))), row(word("e"))), row(word("f"))}, "a:\n  b:\n    c\n    d\n  e\nf\n"},
		{nested(row(number(-5000)), 6), "a:\n  a:\n    a:\n      a:\n        a:\n          a:\n            -5\n"},
		// A heading may end with the sign :, which is then a token before its own colon.
		{[]api.Line{head(row(sign(":"))), head(row(word("a"), sign(":")))}, "::\na::\n"}, {[]api.Line{row(sign(":"), word("a")), row(sign("("), text("#"))}, ": a\n(\"#\"\n"},
		{[]api.Line{row(text(":"))}, "\":\"\n"}, {[]api.Line{{Tokens: []api.Token{word("a")}, Kids: []api.Line{}}}, "a\n"},
	} {
		checkPrint(t, c.list, c.want, api.OK)
		checkPrint(t, placed(c.list, -3), c.want, api.OK)
	}
}

func TestP9_1SyntaxErrors(t *testing.T) {
	a, b := row(word("a")), row(word("b"))
	long := row(slices.Repeat([]api.Token{word("a")}, 65)...)
	for _, list := range [][]api.Line{
		{{}}, {{Heading: true}}, {a, {}}, {head(a, api.Line{})}, {{Tokens: []api.Token{}}}, {{Heading: true, Kids: []api.Line{a}}},
		{{Tokens: a.Tokens, Kids: []api.Line{b}}}, {head(a, api.Line{Tokens: a.Tokens, Kids: []api.Line{b}})},
		{row(sign(":"))}, {row(word("a"), sign(":"))}, {head(a, row(word("a"), sign(":")))}, {row(sign(":"), sign(":"))},
		// ErrSyntax comes before ErrTooMany, wherever it is.
		{long, {}}, {{}, long}, append(nested(a, 9), api.Line{}), nested(api.Line{}, 9), append(slices.Repeat([]api.Line{a}, 50000), row(sign(":"))), {row(append(slices.Clone(long.Tokens), sign(":"))...)}, {{Tokens: long.Tokens, Kids: []api.Line{b}}},
	} {
		checkPrint(t, list, "", api.ErrSyntax)
	}
	for _, bad := range impossible() {
		for _, l := range []api.Line{row(bad), row(word("a"), bad), head(row(bad)), row(append(slices.Clone(long.Tokens), bad)...)} {
			checkPrint(t, []api.Line{l}, "", api.ErrSyntax)
			checkPrint(t, append(nested(l, 7), a), "", api.ErrSyntax)
		}
	}
}

func TestP9_1Limits(t *testing.T) {
	tokens := func(n int) []api.Token { return slices.Repeat([]api.Token{word("a")}, n) }
	as := func(n int) string { return strings.TrimSuffix(strings.Repeat("a ", n), " ") }
	checkPrint(t, []api.Line{row(tokens(64)...)}, as(64)+"\n", api.OK)
	checkPrint(t, []api.Line{row(tokens(65)...)}, "", api.ErrTooMany)
	checkPrint(t, []api.Line{head(row(tokens(63)...))}, as(63)+":\n", api.OK)
	checkPrint(t, []api.Line{head(row(tokens(64)...))}, "", api.ErrTooMany)
	checkPrint(t, []api.Line{head(row(word("a")), row(tokens(65)...))}, "", api.ErrTooMany)
	checkPrint(t, nested(row(word("b")), 7), "", api.ErrTooMany)
	checkPrint(t, append([]api.Line{row(word("c"))}, nested(head(row(word("b"))), 7)...), "", api.ErrTooMany)

	// Lines of 1000 bytes: 22 texts of 42 bytes with blanks, and two words.
	long := func(bytes int) api.Line {
		return row(append(slices.Repeat([]api.Token{text(strings.Repeat("x", 40))}, 22), word(strings.Repeat("v", 20)), word(strings.Repeat("w", bytes-22*43-21)))...)
	}
	for depth := range 7 {
		list := nested(long(1000-2*depth), depth)
		checkPrint(t, list, sourceText(list), api.OK)
		checkPrint(t, nested(long(1001-2*depth), depth), "", api.ErrTooMany)
		list = nested(head(long(999-2*depth)), depth)
		checkPrint(t, list, sourceText(list), api.OK)
		checkPrint(t, nested(head(long(1000-2*depth)), depth), "", api.ErrTooMany)
	}

	// A source of 65536 bytes.
	full := append(slices.Repeat([]api.Line{long(1000)}, 65), row(word("aa")))
	full = append(full, slices.Repeat([]api.Line{row(word("b"))}, 234)...)
	if n := len(sourceText(full)); n != 65536 {
		t.Fatalf("the source has %d bytes", n)
	}
	checkPrint(t, full, sourceText(full), api.OK)
	full[65] = head(full[65])
	checkPrint(t, full, "", api.ErrTooMany)
	full[0] = long(999)
	checkPrint(t, full, sourceText(full), api.OK)
	full[65].Kids = []api.Line{row(word("c"))}
	checkPrint(t, full, "", api.ErrTooMany)
	checkPrint(t, slices.Repeat([]api.Line{row(word("a"))}, 32769), "", api.ErrTooMany)
}

func TestP9_1RandomTrees(t *testing.T) {
	source := rand.New(rand.NewSource(91))
	found := map[api.Errno]int{}
	for range 20000 {
		list := randomTree(source, 8, 5+source.Intn(100))
		wanted, want := check(list), ""
		if wanted == api.OK {
			want = sourceText(list)
		}
		found[wanted]++
		checkPrint(t, list, want, wanted)
	}
	if found[api.OK] < 1000 || found[api.ErrSyntax] < 1000 || found[api.ErrTooMany] < 500 {
		t.Errorf("trees with the errors: %v", found)
	}
}

func TestP9_2Same(t *testing.T) {
	a, b := row(word("a")), row(word("b"))
	for i, c := range []struct {
		a, b []api.Line
		want bool
	}{
		{nil, nil, true}, {nil, []api.Line{}, true}, {nil, []api.Line{{}}, false}, {[]api.Line{{}}, []api.Line{{Tokens: []api.Token{}, Kids: []api.Line{}, At: 3}}, true}, {[]api.Line{{}}, []api.Line{{Heading: true}}, false}, {[]api.Line{{}}, []api.Line{{}, {}}, false},
		{[]api.Line{a}, []api.Line{a}, true}, {[]api.Line{a}, []api.Line{b}, false}, {[]api.Line{a}, []api.Line{a, a}, false}, {[]api.Line{a, a}, []api.Line{a}, false}, {[]api.Line{a, b}, []api.Line{b, a}, false}, {[]api.Line{a}, []api.Line{head(a)}, false},
		{[]api.Line{a}, []api.Line{row(word("a"), word("a"))}, false}, {[]api.Line{row(word("a"), word("b"))}, []api.Line{row(word("b"), word("a"))}, false},
		{[]api.Line{row(word("a"))}, []api.Line{row(text("a"))}, false}, {[]api.Line{row(number(0))}, []api.Line{row(clock(0))}, false}, {[]api.Line{row(number(1))}, []api.Line{row(number(2))}, false}, {[]api.Line{row(api.Token{N: 1})}, []api.Line{row(api.Token{})}, false}, {[]api.Line{row(api.Token{Kind: 99, At: 1})}, []api.Line{row(api.Token{Kind: 99, At: 2})}, true},
		{[]api.Line{head(a, b)}, []api.Line{head(a, b)}, true}, {[]api.Line{head(a, b)}, []api.Line{head(a)}, false}, {[]api.Line{head(a, b)}, []api.Line{head(a), b}, false}, {[]api.Line{head(a, b)}, []api.Line{head(a, a)}, false}, {[]api.Line{head(a, b, a)}, []api.Line{head(a, a, b)}, false},
		{[]api.Line{{Kids: []api.Line{a}}}, []api.Line{{Kids: []api.Line{a}}}, true}, {[]api.Line{{Kids: []api.Line{a}}}, []api.Line{{}}, false}, {nested(a, 20), nested(a, 20), true}, {nested(a, 20), nested(b, 20), false}, {nested(a, 20), nested(a, 21), false},
	} {
		if printer.Same(c.a, c.b) != c.want || printer.Same(c.b, c.a) != c.want {
			t.Errorf("%d: Same(%v, %v) is not %v", i, c.a, c.b, c.want)
		}
		if !printer.Same(c.a, placed(c.a, 5)) || printer.Same(placed(c.a, 5), placed(c.b, 6)) != c.want {
			t.Errorf("%d: places have an influence on %v, %v", i, c.a, c.b)
		}
	}
}

func TestP9_2RandomTrees(t *testing.T) {
	source := rand.New(rand.NewSource(92))
	for range 3000 {
		a := randomTree(source, 3, 5)
		b := placed(a, source.Intn(100))
		if !printer.Same(a, b) {
			t.Errorf("Same(%v, %v) is false", a, b)
		}
		var lines []*api.Line
		var collect func(list []api.Line)
		collect = func(list []api.Line) {
			for i := range list {
				lines = append(lines, &list[i])
				collect(list[i].Kids)
			}
		}
		collect(b)
		l := lines[source.Intn(len(lines))]
		switch source.Intn(5) {
		case 0:
			l.Heading = !l.Heading
		case 1:
			l.Kids = append(l.Kids, api.Line{})
		case 2:
			l.Tokens = append(l.Tokens, word("a"))
		case 3:
			l.Tokens = append([]api.Token{number(9)}, l.Tokens...)
		case 4:
			if len(l.Tokens) == 0 {
				continue
			}
			l.Tokens[source.Intn(len(l.Tokens))].N += 7
		}
		if printer.Same(a, b) || printer.Same(b, a) {
			t.Errorf("Same(%v, %v) is true", a, b)
		}
	}
}

func TestP9_3Number(t *testing.T) {
	list := []api.Line{head(row(word("point"), word("temp")), row(word("unit"), word("degC"))), row(word("f"), sign("("), number(-500), sign(","), text("a b"), sign(")"), sign(":"), clock(60))}
	got, e := printer.Number(placed(list, 50))
	want := []api.Line{
		{At: 1, Heading: true, Tokens: []api.Token{{Kind: api.TokWord, Text: "point", At: 1}, {Kind: api.TokWord, Text: "temp", At: 7}}, Kids: []api.Line{
			{At: 2, Tokens: []api.Token{{Kind: api.TokWord, Text: "unit", At: 3}, {Kind: api.TokWord, Text: "degC", At: 8}}},
		}},
		{At: 3, Tokens: []api.Token{{Kind: api.TokWord, Text: "f", At: 1}, {Kind: api.TokSign, Text: "(", At: 2}, {Kind: api.TokNumber, N: -500, At: 3}, {Kind: api.TokSign, Text: ",", At: 7}, {Kind: api.TokText, Text: "a b", At: 9}, {Kind: api.TokSign, Text: ")", At: 14}, {Kind: api.TokSign, Text: ":", At: 15}, {Kind: api.TokTime, N: 60, At: 17}}},
	}
	if e != api.OK || !same(got, want) {
		t.Errorf("Number: %v, %d, not %v", got, e, want)
	}
	for _, list := range printable() {
		if got, e := printer.Number(list); e != api.OK || !same(got, numbered(list)) {
			t.Errorf("Number(%s): %s, %d, not %s", clip(list), clip(got), e, clip(numbered(list)))
		}
	}
}

// checkNormalize compares the canonical source of a source, or its fault, with what it should be.
func checkNormalize(t *testing.T, source, want string, wanted api.Fault) {
	t.Helper()
	if got, fault := printer.Normalize(source); fault != wanted || got != want {
		t.Errorf("Normalize(%.200q): %.200q, %v, not %.200q, %v", source, got, fault, want, wanted)
	}
}

func TestP9_4Normalize(t *testing.T) {
	for source, want := range map[string]string{
		"": "", "\n \n# nothing\n": "", "a": "a\n", "a\n\n\nb": "a\nb\n",
		"fan  = and ( a,b )  # both": "fan = and(a, b)\n", "\n\npoint temp :\n  unit   degC\n\n  low -5": "point temp:\n  unit degC\n  low -5\n",
		"a ( ( 1 ) , \"x  y\" ) : 07:30\n# nothing\nb": "a((1), \"x  y\"): 07:30\nb\n",
		"a::\n  5: # :\n    \"#\"5.10a<b>c=(d)\n  e:":  "a::\n  5:\n    \"#\" 5.1 a < b > c = (d)\n  e:\n",
	} {
		checkNormalize(t, source, want, api.Fault{})
	}
}

func TestP9_4Faults(t *testing.T) {
	fault := func(e api.Errno, line, col int) api.Fault { return api.Fault{Code: e, Line: line, Col: col} }
	// A line and a source that become too long by their blanks.
	wide := strings.Repeat("\""+strings.Repeat("x", 40)+"\"", 23)
	many := strings.Repeat("a=1\n", api.MaxSource/6)
	for source, want := range map[string]api.Fault{
		"a\n  b\n": fault(api.ErrSyntax, 2, 3), "a\n07": fault(api.ErrSyntax, 2, 1), "a \"\"": fault(api.ErrName, 1, 3), "a:\n 24:00": fault(api.ErrSyntax, 2, 2), "b\n\n24:00": fault(api.ErrRange, 3, 1),
		strings.Repeat("\n", api.MaxSource+1): fault(api.ErrTooMany, 1, 1), "a\n" + strings.Repeat("x", 50): fault(api.ErrTooMany, 2, 1),
		"a\n\n  b\n" + wide + "12345678901": fault(api.ErrSyntax, 3, 3), "a\n\n" + wide + strings.Repeat("x", 12): fault(api.ErrTooMany, 1, 1), "a:\n  " + wide + strings.Repeat("x", 10): fault(api.ErrTooMany, 1, 1), wide + strings.Repeat("x", 11) + ":": fault(api.ErrTooMany, 1, 1),
		many + "a=11111": fault(api.ErrTooMany, 1, 1),
	} {
		checkNormalize(t, source, "", want)
	}
	checkNormalize(t, wide+strings.Repeat("x", 11), strings.ReplaceAll(wide, `""`, `" "`)+" "+strings.Repeat("x", 11)+"\n", api.Fault{})
	checkNormalize(t, many+"bcd", strings.ReplaceAll(many, "=", " = ")+"bcd\n", api.Fault{})
	checkNormalize(t, many+"bcde", "", fault(api.ErrTooMany, 1, 1))
}

// loosened returns a line with more blanks and perhaps a comment, unless it is long.
func loosened(source *rand.Rand, line string) string {
	if len(line) > 300 {
		return line
	}
	scanned, _ := lexer.Scan(line)
	result := strings.Repeat("  ", scanned.Indent)
	for _, t := range scanned.Tokens {
		spelled, _ := lexer.Spell(t)
		result += spelled + strings.Repeat(" ", 1+source.Intn(3))
	}
	if scanned.Heading {
		result += ": "
	}
	return result + []string{"", "# b", "  #:"}[source.Intn(3)]
}

func TestP9_5Sources(t *testing.T) {
	source := rand.New(rand.NewSource(95))
	trees := printable()
	for i, list := range trees {
		printed, _ := printer.Print(list)
		tree, fault := parser.Parse(printed)
		places, _ := printer.Number(list)
		if fault != (api.Fault{}) || !printer.Same(tree, list) || !same(tree, places) {
			t.Errorf("Parse(%q): %v, %v, not %v", printed, tree, fault, places)
		}
		if again, fault := printer.Normalize(printed); fault != (api.Fault{}) || again != printed {
			t.Errorf("Normalize(%q): %q, %v", printed, again, fault)
		}
		other := trees[source.Intn(i+1)]
		behind, _ := printer.Print(other)
		if both, e := printer.Print(append(slices.Clone(list), other...)); len(printed)+len(behind) <= api.MaxSource && (e != api.OK || both != printed+behind) {
			t.Errorf("Print of two lists: %q, %d, not %q and %q", both, e, printed, behind)
		}
		// Comments, empty lines and additional blanks.
		var more strings.Builder
		for line := range strings.Lines(printed) {
			more.WriteString([]string{"", "\n", "   # a:\n", " \n"}[source.Intn(4)])
			more.WriteString(loosened(source, strings.TrimSuffix(line, "\n")) + "\n")
		}
		checkNormalize(t, more.String(), printed, api.Fault{})
	}
}

func TestP9Memory(t *testing.T) {
	for _, list := range printable()[:300] {
		before := clean(list)
		first, _ := printer.Number(list)
		printer.Print(list)
		want := clean(first)
		second, _ := printer.Number(list)
		for i := range second {
			_ = append(second[i].Tokens, word("more"))
			_ = append(second[i].Kids, row(word("more")))
		}
		if !same(second, want) {
			t.Errorf("Number(%v): changed by appending to its parts", list)
		}
		spoil(second)
		if !same(first, want) || !same(list, before) {
			t.Errorf("%v or its Number changed", before)
		}
	}
}

// spoil changes all that a tree refers to.
func spoil(list []api.Line) {
	for i := range list {
		spoil(list[i].Kids)
		for j := range list[i].Tokens {
			list[i].Tokens[j] = word("spoiled")
		}
		list[i] = row(word("spoiled"))
	}
}

func TestP9Deep(t *testing.T) {
	deep, other := nested(row(word("b")), 1<<16-1), nested(row(word("c")), 1<<16-1)
	checkPrint(t, deep, "", api.ErrTooMany)
	checkPrint(t, nested(row(sign(":")), 1<<16-1), "", api.ErrSyntax)
	if !printer.Same(deep, deep) || printer.Same(deep, other) {
		t.Errorf("Same of deep trees")
	}
	wide := []api.Line{row(slices.Repeat([]api.Token{word("a")}, 1<<20)...)}
	checkPrint(t, wide, "", api.ErrTooMany)
}
