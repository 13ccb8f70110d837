package schema_test

import (
	"fmt"
	"math"
	"math/rand"
	"reflect"
	"regexp"
	"slices"
	"strings"
	"testing"

	"plenum/api"
	"plenum/parser"
	"plenum/schema"
)

// word, number, text, clock, date and sign make tokens without a column.
func word(s string) api.Token  { return api.Token{Kind: api.TokWord, Text: s} }
func number(n int64) api.Token { return api.Token{Kind: api.TokNumber, N: n} }
func text(s string) api.Token  { return api.Token{Kind: api.TokText, Text: s} }
func clock(n int64) api.Token  { return api.Token{Kind: api.TokTime, N: n} }
func date(s string) api.Token  { return api.Token{Kind: api.TokDate, Text: s} }
func sign(s string) api.Token  { return api.Token{Kind: api.TokSign, Text: s} }

// form makes a form that stands any number of times.
func form(word string, args ...string) api.Form {
	return api.Form{Word: word, Args: args, Most: schema.MaxLines}
}

// over makes a form with kids.
func over(f api.Form, kids ...api.Form) api.Form {
	f.Kids = kids
	return f
}

// times makes a form that stands from least to most times.
func times(least, most int, f api.Form) api.Form {
	f.Least, f.Most = least, most
	return f
}

// within returns a form that lies within so many others.
func within(f api.Form, depth int) []api.Form {
	forms := []api.Form{f}
	for range depth {
		forms = []api.Form{over(form("a"), forms...)}
	}
	return forms
}

// line makes a line whose tokens have the columns 1, 4, 7 and so on, which is a heading if it has kids.
func line(at int, tokens []api.Token, kids ...api.Line) api.Line {
	l := api.Line{Heading: len(kids) > 0, Kids: kids, At: at}
	for i, t := range tokens {
		t.At = 3*i + 1
		l.Tokens = append(l.Tokens, t)
	}
	return l
}

// words makes a line of words.
func words(at int, list string, kids ...api.Line) api.Line {
	var tokens []api.Token
	for _, s := range strings.Fields(list) {
		tokens = append(tokens, word(s))
	}
	return line(at, tokens, kids...)
}

// heading makes a line a heading, or no longer.
func heading(l api.Line, is bool) api.Line {
	l.Heading = is
	return l
}

// fault makes a fault.
func fault(e api.Errno, line, col int) api.Fault { return api.Fault{Code: e, Line: line, Col: col} }

// clip returns the begin of the text of a value.
func clip(v any) string {
	s := fmt.Sprint(v)
	return s[:min(len(s), 300)]
}

// clean returns a tree with nil in place of empty slices, in new memory.
func clean(lines []api.Line) []api.Line {
	var result []api.Line
	for _, l := range lines {
		l.Tokens = append([]api.Token(nil), l.Tokens...)
		l.Kids = clean(l.Kids)
		result = append(result, l)
	}
	return result
}

// cloned returns forms in new memory.
func cloned(forms []api.Form) []api.Form {
	var result []api.Form
	for _, f := range forms {
		f.Args, f.Kids = slices.Clone(f.Args), cloned(f.Kids)
		result = append(result, f)
	}
	return result
}

// sameLines reports whether two trees are equal, where nil and empty slices are equivalent.
func sameLines(a, b []api.Line) bool { return reflect.DeepEqual(clean(a), clean(b)) }

// exampleForms are the forms of the examples of the chapter.
func exampleForms() []api.Form {
	return []api.Form{
		times(1, 9, form("point", "name", "word")),
		times(0, 2, over(form("device", "name"), times(1, 1, form("address", "whole")))),
	}
}

// tokens are tokens of all kinds, and some that no line has.
var tokens = []api.Token{
	{}, {Text: "a"}, {Kind: 7, Text: "a"}, {Kind: -1, N: 1000}, word(""), word("a"), word("a_9"), word("A"), word("a1B"), word("_a"), word("9a"), word("a b"), word("é"), word("a-b"), word(strings.Repeat("a", 24)), word(strings.Repeat("a", 25)), {Kind: api.TokWord, Text: "a", N: 3, At: 4},
	word("a/b"), word("a/B"), word("A/b"), word("/"), word("a/"), word("/a"), word("a/b/c"), word("a//b"), word(strings.Repeat("a", 24) + "/" + strings.Repeat("b", 24)), word(strings.Repeat("a", 25) + "/b"), word("b/" + strings.Repeat("a", 25)), word("*"), word("="), word("a*"), word("word"),
	number(0), number(1), number(999), number(1000), number(-1000), number(-1), number(1500), number(5000), number(api.MaxAnalog), number(math.MinInt64), number(math.MaxInt64), number(math.MaxInt64 / 1000 * 1000), {Kind: api.TokNumber, Text: "a", N: 7000},
	text("a"), text(""), text("("), text("a/b"), clock(0), clock(390), clock(1440), date("2000-01-01"), date("*-*-*"), date("a"), sign("("), sign(":"), sign("="), sign("*"), sign("a"), sign(""), sign("a*"), sign("**"), sign("=*"), sign("a/b"), sign("<word>"),
}

// allKinds are kinds, and texts that are none of their own.
func allKinds() []string {
	return []string{
		"word", "name", "path", "number", "whole", "text", "time", "date", "any", "=a", "=(", "=:", "==", "=*", "=a*", "=**", "==*", "= ", "=a/b", "=word", "=<word>", "=\x00", "=é",
		"", "*", "**", "=", "word*", "name*", "any*", "Word", "word ", " word", "words", "a", "5", "sign", "token", "whole*", "<word>", "word=", "w", "\x00", strings.Repeat("word", 1<<16),
	}
}

// plain are the definitions of the kinds that have names.
var plain = map[string]func(t api.Token) bool{
	"word":   func(t api.Token) bool { return t.Kind == api.TokWord },
	"name":   func(t api.Token) bool { return t.Kind == api.TokWord && nameForm.MatchString(t.Text) },
	"path":   func(t api.Token) bool { return t.Kind == api.TokWord && pathForm.MatchString(t.Text) },
	"number": func(t api.Token) bool { return t.Kind == api.TokNumber },
	"whole":  func(t api.Token) bool { return t.Kind == api.TokNumber && t.N >= 0 && t.N/1000*1000 == t.N },
	"text":   func(t api.Token) bool { return t.Kind == api.TokText },
	"time":   func(t api.Token) bool { return t.Kind == api.TokTime },
	"date":   func(t api.Token) bool { return t.Kind == api.TokDate },
	"any":    func(t api.Token) bool { return true },
}

// The forms of names, paths and elements of Args.
var (
	nameForm = regexp.MustCompile(`^[a-z][a-z0-9_]{0,23}$`)
	pathForm = regexp.MustCompile(`^[a-z][a-z0-9_]{0,23}/[a-z][a-z0-9_]{0,23}$`)
	argForm  = regexp.MustCompile(`(?s)^(word|name|path|number|whole|text|time|date|any|=.+?)(\*?)$`)
)

// fits is the definition of Fits.
func fits(kind string, t api.Token) bool {
	if len(kind) > 1 && kind[0] == '=' {
		return (t.Kind == api.TokWord || t.Kind == api.TokSign) && t.Text == kind[1:]
	}
	is := plain[kind]
	return is != nil && is(t)
}

// split is the definition of the kind of an element of Args, whether it stands for any number of tokens, and whether it is one at all.
func split(arg string) (kind string, repeated, valid bool) {
	m := argForm.FindStringSubmatch(arg)
	if m == nil {
		return "", false, false
	}
	return m[1], m[2] != "", true
}

// check is the definition of Check.
func check(forms []api.Form) api.Errno {
	broken := map[api.Errno]bool{}
	var visit func(forms []api.Form, depth int)
	visit = func(forms []api.Form, depth int) {
		seen := map[string]bool{}
		for _, f := range forms {
			if depth > 6 {
				broken[api.ErrTooMany] = true
			}
			if !nameForm.MatchString(f.Word) {
				broken[api.ErrName] = true
			}
			for i, arg := range f.Args {
				if _, repeated, valid := split(arg); !valid || repeated && i+1 < len(f.Args) {
					broken[api.ErrUnknown] = true
				}
			}
			if f.Least < 0 || f.Least > 1000 || f.Most < 1 || f.Most > 1000 || f.Most < f.Least {
				broken[api.ErrRange] = true
			}
			if seen[f.Word] {
				broken[api.ErrDuplicate] = true
			}
			seen[f.Word] = true
			visit(f.Kids, depth+1)
		}
	}
	visit(forms, 0)
	for _, e := range []api.Errno{api.ErrTooMany, api.ErrName, api.ErrUnknown, api.ErrRange, api.ErrDuplicate} {
		if broken[e] {
			return e
		}
	}
	return api.OK
}

// column is the column of a line.
func column(l api.Line) int {
	if len(l.Tokens) == 0 {
		return 1
	}
	return l.Tokens[0].At
}

// tokenFault is the definition of the third fault of a line: the index of a token, or -1.
func tokenFault(f api.Form, l api.Line) int {
	least, more := len(f.Args), ""
	if least > 0 {
		if kind, repeated, _ := split(f.Args[least-1]); repeated {
			least, more = least-1, kind
		}
	}
	for i := 1; i < len(l.Tokens); i++ {
		kind := more
		if i <= least {
			kind, _, _ = split(f.Args[i-1])
		}
		if !fits(kind, l.Tokens[i]) {
			return i
		}
	}
	if len(l.Tokens)-1 < least {
		return len(l.Tokens) - 1
	}
	return -1
}

// match is the definition of the first fault of lines, for valid forms.
func match(forms []api.Form, lines []api.Line, end api.Fault) api.Fault {
	of := func(lines []api.Line, f api.Form) (n int) {
		for _, l := range lines {
			if parser.Word(l) == f.Word {
				n++
			}
		}
		return n
	}
	for i, l := range lines {
		k := slices.IndexFunc(forms, func(f api.Form) bool { return f.Word == parser.Word(l) })
		if k < 0 {
			return fault(api.ErrUnknown, l.At, column(l))
		}
		f := forms[k]
		if of(lines[:i], f) >= f.Most {
			return fault(api.ErrTooMany, l.At, column(l))
		}
		if j := tokenFault(f, l); j >= 0 {
			return fault(api.ErrSyntax, l.At, l.Tokens[j].At)
		}
		if l.Heading == (len(f.Kids) == 0) {
			return fault(api.ErrSyntax, l.At, column(l))
		}
		if below := match(f.Kids, l.Kids, fault(api.ErrNone, l.At, column(l))); below != (api.Fault{}) {
			return below
		}
	}
	for _, f := range forms {
		if of(lines, f) < f.Least {
			return end
		}
	}
	return api.Fault{}
}

// randomForms returns valid forms.
func randomForms(source *rand.Rand, depth int) []api.Form {
	var forms []api.Form
	for _, w := range []string{"a", "b", "c"}[:source.Intn(4)] {
		least := source.Intn(3)
		f := times(least, max(1, least+source.Intn(3)), form(w))
		for range source.Intn(3) {
			f.Args = append(f.Args, []string{"word", "name", "path", "number", "whole", "text", "time", "date", "any", "=a", "=:", "=*"}[source.Intn(12)])
		}
		if source.Intn(3) == 0 {
			f.Args = append(f.Args, []string{"any*", "word*", "whole*", "=a*", "=**"}[source.Intn(5)])
		}
		if depth > 0 && source.Intn(2) == 0 {
			f.Kids = randomForms(source, depth-1)
		}
		forms = append(forms, f)
	}
	return forms
}

// tokenFor returns a token that fits an element of Args.
func tokenFor(source *rand.Rand, arg string) api.Token {
	kind, _, _ := split(arg)
	for {
		if t := tokens[source.Intn(len(tokens))]; fits(kind, t) {
			return t
		}
	}
}

// randomLines returns lines that match forms, or perhaps have faults. The rarer faults are, the more often they match.
func randomLines(source *rand.Rand, forms []api.Form, rare int) []api.Line {
	var lines []api.Line
	for _, f := range forms {
		count := f.Least + source.Intn(f.Most-f.Least+1)
		switch source.Intn(rare) {
		case 0:
			count = source.Intn(5)
		case 1:
			lines = append(lines, []api.Line{{At: 77}, words(78, "d"), line(79, []api.Token{text("a")}), {At: 80, Tokens: []api.Token{{}}}}[source.Intn(4)])
		}
		for range count {
			l := api.Line{Tokens: []api.Token{word(f.Word)}, Heading: len(f.Kids) > 0, Kids: randomLines(source, f.Kids, rare), At: source.Intn(50)}
			for _, arg := range f.Args {
				n := 1
				if _, repeated, _ := split(arg); repeated {
					n = source.Intn(3)
				}
				for range n {
					l.Tokens = append(l.Tokens, tokenFor(source, arg))
				}
			}
			switch source.Intn(rare) {
			case 0:
				l.Tokens = append(l.Tokens, tokens[source.Intn(len(tokens))])
			case 1:
				l.Tokens = l.Tokens[:1+source.Intn(len(l.Tokens))]
			case 2:
				l.Tokens[source.Intn(len(l.Tokens))] = tokens[source.Intn(len(tokens))]
			case 3:
				l.Heading = !l.Heading
			case 4:
				l.Kids = append(l.Kids, words(81, "a"))
			}
			for i := range l.Tokens {
				l.Tokens[i].At = source.Intn(90)
			}
			lines = append(lines, l)
		}
	}
	source.Shuffle(len(lines), func(i, j int) { lines[i], lines[j] = lines[j], lines[i] })
	return lines
}

// checkForms checks the error of all functions that check forms.
func checkForms(t *testing.T, forms []api.Form, want api.Errno) {
	t.Helper()
	if e := schema.Check(forms); e != want {
		t.Errorf("Check(%s): %d, not %d", clip(forms), e, want)
	}
	lines := []api.Line{{}, words(3, "a b"), words(4, "zz")}
	if f, e := schema.Match(forms, lines); e != want || e != api.OK && f != (api.Fault{}) {
		t.Errorf("Match(%s): %v, %d, not %d", clip(forms), f, e, want)
	}
	if counts, e := schema.Count(forms, lines); e != want || e != api.OK && len(counts) != 0 {
		t.Errorf("Count(%s): %v, %d, not %d", clip(forms), counts, e, want)
	}
	if s, e := schema.Describe(forms); e != want || e != api.OK && s != "" {
		t.Errorf("Describe(%s): %s, %d, not %d", clip(forms), clip(s), e, want)
	}
	if l, e := schema.Example(forms); want != api.OK && (e != want || len(l) != 0) {
		t.Errorf("Example(%s): %s, %d, not %d", clip(forms), clip(l), e, want)
	}
}

func TestP10_1Check(t *testing.T) {
	for _, c := range []struct {
		forms []api.Form
		want  api.Errno
	}{
		{nil, api.OK}, {[]api.Form{}, api.OK}, {exampleForms(), api.OK}, {[]api.Form{form("a"), form("b"), form("c_9")}, api.OK}, {[]api.Form{over(form("a"), form("a"))}, api.OK}, {[]api.Form{over(form("a"), form("c")), over(form("b"), form("c"))}, api.OK},
		{within(form("b"), 6), api.OK}, {within(form("b"), 7), api.ErrTooMany}, {append([]api.Form{form("b")}, within(form("b"), 7)...), api.ErrTooMany}, {within(form("b"), 30), api.ErrTooMany},
		{[]api.Form{form(strings.Repeat("a", 24))}, api.OK}, {[]api.Form{form(strings.Repeat("a", 25))}, api.ErrName}, {[]api.Form{form("")}, api.ErrName}, {[]api.Form{form("A")}, api.ErrName}, {[]api.Form{form("a/b")}, api.ErrName}, {[]api.Form{form("1")}, api.ErrName}, {[]api.Form{form("a b")}, api.ErrName}, {[]api.Form{form("_")}, api.ErrName},
		{[]api.Form{{Word: "a"}}, api.ErrRange}, {[]api.Form{times(0, 1, form("a"))}, api.OK}, {[]api.Form{times(1000, 1000, form("a"))}, api.OK}, {[]api.Form{times(3, 3, form("a"))}, api.OK},
		{[]api.Form{times(0, 0, form("a"))}, api.ErrRange}, {[]api.Form{times(0, 1001, form("a"))}, api.ErrRange}, {[]api.Form{times(1001, 1001, form("a"))}, api.ErrRange}, {[]api.Form{times(-1, 5, form("a"))}, api.ErrRange}, {[]api.Form{times(3, 2, form("a"))}, api.ErrRange}, {[]api.Form{times(-2, -1, form("a"))}, api.ErrRange}, {[]api.Form{times(math.MinInt, math.MaxInt, form("a"))}, api.ErrRange}, {[]api.Form{times(math.MaxInt, math.MaxInt, form("a"))}, api.ErrRange}, {[]api.Form{times(math.MaxInt, math.MinInt, form("a"))}, api.ErrRange},
		{[]api.Form{form("a"), form("a")}, api.ErrDuplicate}, {[]api.Form{form("a"), form("b"), form("a", "word")}, api.ErrDuplicate}, {[]api.Form{over(form("a"), form("b"), form("b"))}, api.ErrDuplicate}, {[]api.Form{over(form("a"), form("b"), over(form("c"), form("d"), form("d")))}, api.ErrDuplicate},
	} {
		checkForms(t, c.forms, c.want)
		if want := check(c.forms); want != c.want {
			t.Errorf("the definition says %d of %s", want, clip(c.forms))
		}
	}
}

func TestP10_1Kinds(t *testing.T) {
	valid := map[string]api.Errno{}
	for _, arg := range []string{
		"word", "name", "path", "number", "whole", "text", "time", "date", "any", "=a", "=(", "=:", "==", "= ", "=a/b", "=word", "=<word>", "=\x00", "=é", "=\n", "=*",
		"word*", "name*", "path*", "number*", "whole*", "text*", "time*", "date*", "any*", "=a*", "=(*", "=**", "==*", "=a**", "=***", "=\n*",
	} {
		valid[arg] = api.OK
	}
	for _, arg := range append(allKinds(), "word**", "any**", "*word", "wor*", "=", "*=", "**", "a*", " *", "\n*", "wholes*", "word\n") {
		if _, known := valid[arg]; !known {
			valid[arg] = api.ErrUnknown
		}
	}
	for arg, want := range valid {
		checkForms(t, []api.Form{form("a", arg)}, want)
		checkForms(t, []api.Form{form("a", "word", "=b", arg)}, want)
		checkForms(t, within(form("b", arg), 6), want)
		// Only the last one stands for any number of tokens.
		if arg != "=*" && strings.HasSuffix(arg, "*") {
			want = api.ErrUnknown
		}
		checkForms(t, []api.Form{form("a", arg, "word")}, want)
		checkForms(t, []api.Form{form("a", "word", arg, "word*")}, want)
	}
}

func TestP10_1CheckOrder(t *testing.T) {
	spoiled := map[api.Errno][]api.Form{
		api.ErrTooMany: within(form("x"), 7), api.ErrName: {form("X")}, api.ErrUnknown: {form("y", "kind")}, api.ErrRange: {times(2, 1, form("z"))}, api.ErrDuplicate: {form("v"), form("v")},
	}
	order := []api.Errno{api.ErrTooMany, api.ErrName, api.ErrUnknown, api.ErrRange, api.ErrDuplicate}
	for i, first := range order {
		checkForms(t, spoiled[first], first)
		for _, second := range order[i+1:] {
			a, b := spoiled[first], spoiled[second]
			checkForms(t, append(slices.Clone(a), b...), first)
			checkForms(t, append(slices.Clone(b), a...), first)
			checkForms(t, append(slices.Clone(b), over(form("w"), a...)), first)
			checkForms(t, append([]api.Form{over(form("w"), b...)}, a...), first)
			checkForms(t, []api.Form{over(form("u"), over(form("w"), b...), over(form("t"), a...))}, first)
		}
	}
	// One form with several errors.
	f := api.Form{Word: "A", Args: []string{"*"}, Least: -1}
	for i, want := range []api.Errno{api.ErrName, api.ErrUnknown, api.ErrRange, api.ErrDuplicate, api.OK} {
		switch i {
		case 1:
			f.Word = "a"
		case 2:
			f.Args = nil
		case 3:
			f.Least, f.Most = 0, 1
		}
		forms := []api.Form{f, f}
		if i == 4 {
			forms = forms[:1]
		}
		checkForms(t, forms, want)
		checkForms(t, []api.Form{over(form("b"), forms...)}, want)
	}
}

func TestP10_1Fits(t *testing.T) {
	for _, kind := range allKinds() {
		found := 0
		for _, token := range tokens {
			for _, at := range []int{token.At, 9} {
				token.At = at
				want := fits(kind, token)
				if got := schema.Fits(kind, token); got != want {
					t.Errorf("Fits(%.20q, %v): %v", kind, token, got)
				}
				if want {
					found++
				}
			}
		}
		if known := plain[kind] != nil; known && found == 0 {
			t.Errorf("no token fits %q", kind)
		}
	}
	for _, c := range []struct {
		kind  string
		token api.Token
		want  bool
	}{
		{"name", word("a_9"), true}, {"name", word("Ab"), false}, {"path", word("ahu/fan"), true}, {"path", word("ahu"), false}, {"whole", number(5000), true}, {"whole", number(1500), false}, {"whole", number(-1000), false}, {"number", number(-1), true}, {"text", word("a"), false}, {"any", sign("("), true},
		{"=a", word("a"), true}, {"=a", text("a"), false}, {"=a", word("b"), false}, {"=(", sign("("), true}, {"=*", sign("*"), true}, {"=a*", word("a"), false}, {"=a*", word("a*"), true}, {"word*", word("a"), false}, {"any*", word("a"), false}, {"", word(""), false}, {"=", word(""), false}, {"=", sign("="), false}, {"==", sign("="), true},
	} {
		if got := schema.Fits(c.kind, c.token); got != c.want {
			t.Errorf("Fits(%q, %v): %v", c.kind, c.token, got)
		}
	}
}

func TestP10_1Find(t *testing.T) {
	odd := []api.Form{{Word: "b", Least: 9, Most: -4}, {Word: ""}, {Word: "A B", Args: []string{"?"}}, {Word: "a"}, {Word: "b"}, {Word: "a", Kids: within(form(""), 20)}}
	for _, c := range []struct {
		forms []api.Form
		line  api.Line
		want  int
	}{
		{nil, words(1, "a"), -1}, {nil, api.Line{}, -1}, {exampleForms(), words(1, "point"), 0}, {exampleForms(), words(1, "device x y"), 1}, {exampleForms(), words(1, "address"), -1}, {exampleForms(), words(1, "Point"), -1}, {exampleForms(), line(1, []api.Token{text("point")}), -1}, {exampleForms(), line(1, []api.Token{number(5), word("point")}), -1},
		{odd, words(1, "a"), 3}, {odd, words(1, "b"), 0}, {odd, line(1, []api.Token{word("A B")}), 2}, {odd, line(1, []api.Token{word("")}), 1}, {odd, api.Line{}, -1}, {odd, line(1, []api.Token{{}}), -1}, {odd, line(1, []api.Token{text("")}), -1}, {odd, line(1, []api.Token{sign("a")}), -1}, {odd, words(1, "c"), -1}, {odd, words(1, "aa"), -1}, {odd, api.Line{Kids: []api.Line{words(1, "a")}}, -1},
	} {
		if got := schema.Find(c.forms, c.line); got != c.want {
			t.Errorf("Find(%s, %v): %d, not %d", clip(c.forms), c.line, got, c.want)
		}
	}
}

// checkMatch compares the first fault of lines with what it should be.
func checkMatch(t *testing.T, forms []api.Form, lines []api.Line, want api.Fault) {
	t.Helper()
	if got, e := schema.Match(forms, lines); e != api.OK || got != want {
		t.Errorf("Match(%s, %s): %v, %d, not %v", clip(forms), clip(lines), got, e, want)
	}
	if again := match(forms, lines, fault(api.ErrNone, 1, 1)); again != want {
		t.Errorf("the definition says %v of %s, %s", again, clip(forms), clip(lines))
	}
}

func TestP10_2Examples(t *testing.T) {
	point := words(1, "point a b")
	address := line(3, []api.Token{word("address"), number(5000)})
	device := words(2, "device x", address)
	for _, c := range []struct {
		lines []api.Line
		want  api.Fault
	}{
		{[]api.Line{point, device}, api.Fault{}}, {[]api.Line{device, point}, api.Fault{}}, {[]api.Line{point}, api.Fault{}}, {[]api.Line{device}, fault(api.ErrNone, 1, 1)}, {nil, fault(api.ErrNone, 1, 1)},
		{[]api.Line{words(1, "point a")}, fault(api.ErrSyntax, 1, 4)}, {[]api.Line{point, words(2, "turn 1")}, fault(api.ErrUnknown, 2, 1)},
		{[]api.Line{point, words(2, "device x", line(3, []api.Token{word("address"), number(1500)}))}, fault(api.ErrSyntax, 3, 4)},
		{[]api.Line{point, device, device, words(8, "device y", address)}, fault(api.ErrTooMany, 8, 1)}, {append(slices.Repeat([]api.Line{point}, 9), words(10, "point a b")), fault(api.ErrTooMany, 10, 1)}, {slices.Repeat([]api.Line{point}, 9), api.Fault{}},
		{[]api.Line{point, words(2, "device x", address, words(4, "address y"))}, fault(api.ErrTooMany, 4, 1)}, {[]api.Line{point, heading(words(2, "device x"), true)}, fault(api.ErrNone, 2, 1)},
	} {
		checkMatch(t, exampleForms(), c.lines, c.want)
	}
}

func TestP10_2Faults(t *testing.T) {
	forms := []api.Form{times(0, 2, form("a", "word", "whole")), times(1, 2, over(form("b", "name*"), times(1, 1, form("c")), form("d", "=*"))), form("e", "=to", "any*"), over(form("f"), form("f", "text"))}
	b := words(20, "b", words(21, "c"))
	a := line(10, []api.Token{word("a"), word("x"), number(1000)})
	e := fault(api.ErrNone, 1, 1)
	for _, c := range []struct {
		lines []api.Line
		want  api.Fault
	}{
		{[]api.Line{b}, api.Fault{}}, {[]api.Line{a, b, a, b}, api.Fault{}}, {nil, e}, {[]api.Line{a}, e}, {[]api.Line{a, words(3, "e to x to")}, e},
		// No form: no tokens, another word, no word.
		{[]api.Line{{At: 4}}, fault(api.ErrUnknown, 4, 1)}, {[]api.Line{b, {At: 5, Heading: true, Kids: []api.Line{b}}}, fault(api.ErrUnknown, 5, 1)}, {[]api.Line{words(6, "c")}, fault(api.ErrUnknown, 6, 1)}, {[]api.Line{line(7, []api.Token{text("a"), word("x"), number(1000)})}, fault(api.ErrUnknown, 7, 1)}, {[]api.Line{{At: -9, Tokens: []api.Token{{Kind: api.TokWord, Text: "z", At: -8}}}}, fault(api.ErrUnknown, -9, -8)},
		// Too many, and before it faults of the lines before.
		{[]api.Line{a, a, words(11, "a")}, fault(api.ErrTooMany, 11, 1)}, {[]api.Line{b, b, b}, fault(api.ErrTooMany, 20, 1)}, {[]api.Line{a, words(12, "a"), a}, fault(api.ErrSyntax, 12, 1)}, {[]api.Line{a, a, words(13, "z"), a}, fault(api.ErrUnknown, 13, 1)},
		// Tokens.
		{[]api.Line{words(1, "a")}, fault(api.ErrSyntax, 1, 1)}, {[]api.Line{words(2, "a x")}, fault(api.ErrSyntax, 2, 4)}, {[]api.Line{words(3, "a x y")}, fault(api.ErrSyntax, 3, 7)}, {[]api.Line{line(4, []api.Token{word("a"), number(1000)})}, fault(api.ErrSyntax, 4, 4)}, {[]api.Line{line(5, []api.Token{word("a"), number(1000), word("x")})}, fault(api.ErrSyntax, 5, 4)},
		{[]api.Line{line(6, append(slices.Clone(a.Tokens), word("x"), text("y")))}, fault(api.ErrSyntax, 6, 10)}, {[]api.Line{line(7, []api.Token{word("a"), word("x"), number(999), word("y")})}, fault(api.ErrSyntax, 7, 7)},
		{[]api.Line{words(8, "b x y Z q", words(9, "c"))}, fault(api.ErrSyntax, 8, 10)}, {[]api.Line{words(8, "b x y z q", words(9, "c"))}, api.Fault{}}, {[]api.Line{b, words(8, "e")}, fault(api.ErrSyntax, 8, 1)}, {[]api.Line{b, words(8, "e to")}, api.Fault{}}, {[]api.Line{b, words(8, "e from")}, fault(api.ErrSyntax, 8, 4)},
		{[]api.Line{words(1, "b", words(2, "c"), line(3, []api.Token{word("d"), sign("*")}))}, api.Fault{}}, {[]api.Line{words(1, "b", words(2, "c"), line(3, []api.Token{word("d"), sign("*"), sign("*")}))}, fault(api.ErrSyntax, 3, 7)}, {[]api.Line{words(1, "b", words(2, "c"), words(3, "d"))}, fault(api.ErrSyntax, 3, 1)},
		// Headings.
		{[]api.Line{heading(a, true)}, fault(api.ErrSyntax, 10, 1)}, {[]api.Line{heading(b, false)}, fault(api.ErrSyntax, 20, 1)}, {[]api.Line{words(1, "b")}, fault(api.ErrSyntax, 1, 1)}, {[]api.Line{words(1, "b 5 Z")}, fault(api.ErrSyntax, 1, 4)}, {[]api.Line{heading(words(1, "a x y"), true)}, fault(api.ErrSyntax, 1, 7)}, {[]api.Line{a, a, heading(a, true)}, fault(api.ErrTooMany, 10, 1)},
		// Kids.
		{[]api.Line{words(1, "b", words(2, "a"))}, fault(api.ErrUnknown, 2, 1)}, {[]api.Line{words(1, "b", words(2, "c"), words(3, "c"))}, fault(api.ErrTooMany, 3, 1)}, {[]api.Line{heading(words(5, "b"), true)}, fault(api.ErrNone, 5, 1)}, {[]api.Line{words(1, "b", line(2, []api.Token{word("d"), sign("*")}))}, fault(api.ErrNone, 1, 1)}, {[]api.Line{b, words(6, "b x", line(2, []api.Token{word("d"), sign("*")})), words(7, "z")}, fault(api.ErrNone, 6, 1)},
		{[]api.Line{heading(words(1, "a", words(2, "c")), false)}, fault(api.ErrSyntax, 1, 1)}, {[]api.Line{heading(line(1, a.Tokens, words(2, "c")), false)}, fault(api.ErrUnknown, 2, 1)}, {[]api.Line{words(1, "b", heading(words(2, "c", words(3, "c")), false))}, fault(api.ErrUnknown, 3, 1)},
		{[]api.Line{b, words(1, "f", words(2, "f"))}, fault(api.ErrSyntax, 2, 1)}, {[]api.Line{b, words(1, "f", line(2, []api.Token{word("f"), text("x")}))}, api.Fault{}}, {[]api.Line{b, heading(words(1, "f"), true)}, api.Fault{}},
		// A line and what belongs to it come before the next line, and all lines before those that are lacking.
		{[]api.Line{words(1, "b", words(2, "z")), words(3, "z")}, fault(api.ErrUnknown, 2, 1)}, {[]api.Line{a, words(3, "z")}, fault(api.ErrUnknown, 3, 1)}, {[]api.Line{heading(words(1, "b"), true), words(3, "z")}, fault(api.ErrNone, 1, 1)},
	} {
		checkMatch(t, forms, c.lines, c.want)
	}
	// Columns are those of the tokens, and of a line that of its first token.
	moved := []api.Line{{At: 9, Heading: true, Tokens: []api.Token{{Kind: api.TokWord, Text: "b", At: 5}}}}
	checkMatch(t, forms, moved, fault(api.ErrNone, 9, 5))
	checkMatch(t, nil, nil, api.Fault{})
	checkMatch(t, nil, moved, fault(api.ErrUnknown, 9, 5))
}

func TestP10_2RandomLines(t *testing.T) {
	source := rand.New(rand.NewSource(102))
	found := map[api.Errno]int{}
	for range 20000 {
		forms := randomForms(source, 3)
		lines := randomLines(source, forms, 6+source.Intn(100))
		want := match(forms, lines, fault(api.ErrNone, 1, 1))
		checkMatch(t, forms, lines, want)
		found[want.Code]++
	}
	for _, e := range []api.Errno{api.OK, api.ErrUnknown, api.ErrTooMany, api.ErrSyntax, api.ErrNone} {
		if found[e] < 100 {
			t.Errorf("lines with the faults: %v", found)
		}
	}
}

func TestP10_2Count(t *testing.T) {
	a, b := words(1, "a"), words(2, "b", words(3, "a"), words(4, "c"))
	forms := []api.Form{form("a", "number"), form("b"), times(1, 1, form("c"))}
	for _, c := range []struct {
		forms []api.Form
		lines []api.Line
		want  []int
	}{
		{nil, nil, nil}, {nil, []api.Line{a}, nil}, {forms, nil, []int{0, 0, 0}}, {forms, []api.Line{a, b, a, words(9, "a b c"), words(9, "d"), {}, line(9, []api.Token{text("a")})}, []int{3, 1, 0}}, {forms, slices.Repeat([]api.Line{words(7, "c")}, 2000), []int{0, 0, 2000}}, {[]api.Form{over(form("b"), form("a"))}, []api.Line{b, a}, []int{1}},
	} {
		if got, e := schema.Count(c.forms, c.lines); e != api.OK || !slices.Equal(got, c.want) {
			t.Errorf("Count(%s, %s): %v, %d, not %v", clip(c.forms), clip(c.lines), got, e, c.want)
		}
	}
	source := rand.New(rand.NewSource(103))
	for range 3000 {
		forms := randomForms(source, 2)
		lines := randomLines(source, forms, 10)
		got, e := schema.Count(forms, lines)
		for i, f := range forms {
			if want := len(parser.Find(lines, f.Word)); e != api.OK || len(got) != len(forms) || got[i] != want {
				t.Errorf("Count(%s, %s): %v, %d", clip(forms), clip(lines), got, e)
			}
		}
	}
}

func TestP10_3Describe(t *testing.T) {
	for _, c := range []struct {
		forms []api.Form
		want  string
	}{
		{nil, ""}, {[]api.Form{times(0, 1, form("a"))}, "a (0 to 1)\n"},
		{exampleForms(), "point <name> <word> (1 to 9)\ndevice <name>: (0 to 2)\n  address <whole> (1 to 1)\n"},
		{[]api.Form{times(1000, 1000, form("a", "path", "number", "text", "time", "date", "any"))}, "a <path> <number> <text> <time> <date> <any> (1000 to 1000)\n"},
		{[]api.Form{times(0, 10, over(form("b", "=to", "=(", "=*", "word*"), times(2, 3, over(form("c", "=a*"), times(0, 7, form("d", "=**")))), times(0, 1, form("e", "==", "==*")))), times(1, 2, form("f", "=word"))},
			"b to ( * <word>...: (0 to 10)\n  c a...: (2 to 3)\n    d *... (0 to 7)\n  e = =... (0 to 1)\nf word (1 to 2)\n"},
		{within(times(1, 1, form("b")), 6), "a: (0 to 1000)\n  a: (0 to 1000)\n    a: (0 to 1000)\n      a: (0 to 1000)\n        a: (0 to 1000)\n          a: (0 to 1000)\n            b (1 to 1)\n"},
		{[]api.Form{{Word: "a", Args: []string{}, Kids: []api.Form{}, Most: 5}}, "a (0 to 5)\n"}, {[]api.Form{form("a", "= ", "=\n")}, "a   \n (0 to 1000)\n"},
	} {
		if got, e := schema.Describe(c.forms); e != api.OK || got != c.want {
			t.Errorf("Describe(%s): %q, %d, not %q", clip(c.forms), got, e, c.want)
		}
	}
}

func TestP10_3Example(t *testing.T) {
	bare := func(l api.Line) api.Line {
		l.At = 0
		l.Tokens = slices.Clone(l.Tokens)
		for i := range l.Tokens {
			l.Tokens[i].At = 0
		}
		return l
	}
	all := form("a", "word", "name", "path", "number", "whole", "text", "time", "date", "any", "=to", "=To", "=(", "=*", "=9", "=é", "=/a", "=[", "=@", "=`", "={", "=A", "=Z", "=z", "any*")
	for _, c := range []struct {
		forms []api.Form
		want  []api.Line
	}{
		{nil, nil}, {[]api.Form{form("a")}, nil}, {exampleForms(), []api.Line{bare(words(0, "point a a"))}}, {[]api.Form{over(form("a"), times(1, 1, form("b")))}, nil},
		{[]api.Form{times(1, 1, all)}, []api.Line{bare(line(0, []api.Token{word("a"), word("a"), word("a"), word("a/a"), number(0), number(0), text("a"), clock(0), date("2000-01-01"), word("a"), word("to"), word("To"), sign("("), sign("*"), sign("9"), sign("é"), sign("/a"), sign("["), sign("@"), sign("`"), sign("{"), word("A"), word("Z"), word("z")}))}},
		{[]api.Form{times(1, 1, form("a", "=a*")), times(1, 1, form("b", "=**")), times(1, 1, form("c", "word*"))}, []api.Line{bare(words(0, "a")), bare(words(0, "b")), bare(words(0, "c"))}},
		{[]api.Form{times(2, 9, form("b")), times(1, 1, over(form("a", "=x"), times(0, 3, form("c")), times(2, 2, form("d")))), times(1, 3, over(form("e"), form("f")))}, []api.Line{bare(words(0, "b")), bare(words(0, "b")), {Tokens: []api.Token{word("a"), word("x")}, Heading: true, Kids: []api.Line{bare(words(0, "d")), bare(words(0, "d"))}}, {Tokens: []api.Token{word("e")}, Heading: true}}},
	} {
		if got, e := schema.Example(c.forms); e != api.OK || !sameLines(got, c.want) {
			t.Errorf("Example(%s): %v, %d, not %v", clip(c.forms), got, e, c.want)
		}
	}
}

func TestP10_3ExampleLimit(t *testing.T) {
	of := func(n int, f api.Form, kids ...api.Form) api.Form { return times(n, 1000, over(f, kids...)) }
	deep := []api.Form{of(1000, form("a"))}
	none := []api.Form{of(1, form("b"))}
	// The number of lines is more than 2^63.
	half := []api.Form{of(512, form("a"))}
	for range 6 {
		deep = []api.Form{of(1000, form("a"), deep...)}
		half = []api.Form{of(512, form("a"), half...)}
		none = []api.Form{of(0, form("b"), append(none, of(1000, form("c")))...)}
	}
	for _, c := range []struct {
		forms []api.Form
		want  int
	}{
		{[]api.Form{of(1000, form("a"))}, 1000}, {[]api.Form{of(1000, form("a")), of(1, form("b"))}, -1}, {[]api.Form{of(999, form("a")), of(1, form("b"))}, 1000}, {[]api.Form{of(1, form("b")), of(0, form("c")), of(999, form("a"))}, 1000},
		{[]api.Form{of(500, form("a"), of(1, form("b")))}, 1000}, {[]api.Form{of(500, form("a"), of(1, form("b"))), of(1, form("c"))}, -1}, {[]api.Form{of(501, form("a"), of(1, form("b")))}, -1}, {[]api.Form{of(1, form("a"), of(999, form("b")))}, 1000}, {[]api.Form{of(1, form("a"), of(1000, form("b")))}, -1}, {[]api.Form{of(10, form("a"), of(9, form("b"), of(10, form("c"))), of(0, form("d"), of(1000, form("e"))))}, 1000}, {[]api.Form{of(10, form("a"), of(9, form("b"), of(11, form("c"))))}, -1},
		{deep, -1}, {half, -1}, {none, 0}, {append(slices.Clone(none), of(1, form("z"))), 1},
	} {
		got, e := schema.Example(c.forms)
		switch {
		case c.want < 0 && (e != api.ErrTooMany || len(got) != 0):
			t.Errorf("Example(%s): %d lines, %d", clip(c.forms), parser.Count(got), e)
		case c.want >= 0 && (e != api.OK || parser.Count(got) != c.want):
			t.Errorf("Example(%s): %d lines, %d, not %d", clip(c.forms), parser.Count(got), e, c.want)
		}
		checkForms(t, c.forms, api.OK)
	}
}

func TestP10_4Example(t *testing.T) {
	source := rand.New(rand.NewSource(104))
	for range 3000 {
		forms := randomForms(source, 3)
		lines, e := schema.Example(forms)
		if e != api.OK {
			t.Fatalf("Example(%s): %d", clip(forms), e)
		}
		checkMatch(t, forms, lines, api.Fault{})
		n := parser.Count(lines)
		for range 5 {
			other := randomLines(source, forms, 50)
			if f, _ := schema.Match(forms, other); f.Code == api.OK && parser.Count(other) < n {
				t.Errorf("%s: %s matches and has fewer lines than the example", clip(forms), clip(other))
			}
		}
		for i := range lines {
			if f, _ := schema.Match(forms, slices.Delete(slices.Clone(lines), i, i+1)); f != fault(api.ErrNone, 1, 1) {
				t.Errorf("%s: the example without line %d: %v", clip(forms), i, f)
			}
		}
	}
}

func TestP10_4LeavingOutAndOrder(t *testing.T) {
	source := rand.New(rand.NewSource(105))
	left, good := 0, 0
	for range 5000 {
		forms := randomForms(source, 2)
		lines := randomLines(source, forms, 200)
		if f, _ := schema.Match(forms, lines); f.Code != api.OK {
			continue
		}
		good++
		counts, _ := schema.Count(forms, lines)
		for i, l := range lines {
			k := schema.Find(forms, l)
			want := api.Fault{}
			if counts[k] == forms[k].Least {
				want = fault(api.ErrNone, 1, 1)
			} else {
				left++
			}
			checkMatch(t, forms, slices.Delete(slices.Clone(lines), i, i+1), want)
		}
		slices.SortStableFunc(lines, func(a, b api.Line) int { return strings.Compare(parser.Word(b), parser.Word(a)) })
		checkMatch(t, forms, lines, api.Fault{})
	}
	if good < 1000 || left < 1000 {
		t.Errorf("%d lists that match, %d lines that can be left out", good, left)
	}
}

func TestP10Memory(t *testing.T) {
	forms := []api.Form{times(2, 3, over(form("a", "word", "any*"), times(2, 2, form("b", "name")), times(1, 1, over(form("c"), form("d"))))), times(1, 1, form("e", "=x"))}
	before := cloned(forms)
	first, _ := schema.Example(forms)
	want := clean(first)
	second, _ := schema.Example(forms)
	for _, l := range second {
		_ = append(l.Tokens, word("more"))
		_ = append(l.Kids, words(9, "more"))
	}
	if !sameLines(second, want) {
		t.Errorf("changed by appending: %v", second)
	}
	// No two parts of a result share memory.
	second[0].Tokens[1] = word("spoiled")
	second[0].Kids[0].Tokens[1] = word("spoiled")
	second[0].Kids[1] = words(9, "spoiled")
	if !sameLines(second[1:], want[1:]) || !sameLines(second[0].Kids[2:], want[0].Kids[2:]) || !sameLines(first, want) {
		t.Errorf("changed by another part: %v, %v", first, second)
	}
	lines := clean(want)
	counts, _ := schema.Count(forms, lines)
	clear(counts)
	if again, _ := schema.Count(forms, lines); !slices.Equal(again, []int{2, 1}) {
		t.Errorf("Count: %v", again)
	}
	schema.Match(forms, lines)
	schema.Describe(forms)
	schema.Find(forms, lines[0])
	schema.Check(forms)
	if !sameLines(lines, want) || !reflect.DeepEqual(forms, before) {
		t.Errorf("changed arguments: %v, %v", forms, lines)
	}
}

func TestP10Deep(t *testing.T) {
	checkForms(t, within(form("b"), 1<<16-1), api.ErrTooMany)
	checkForms(t, within(form("B", "?"), 1<<16-1), api.ErrTooMany)
	lines := []api.Line{words(9, "a")}
	for range 1<<16 - 1 {
		lines = []api.Line{words(8, "a", lines...)}
	}
	if f, e := schema.Match(within(form("b"), 6), lines); e != api.OK || f != fault(api.ErrUnknown, 8, 1) {
		t.Errorf("deep lines: %v, %d", f, e)
	}
	if n, e := schema.Count(within(form("b"), 6), lines); e != api.OK || !slices.Equal(n, []int{1}) {
		t.Errorf("deep lines: %v, %d", n, e)
	}
	// More tokens than a line of a source has.
	many := line(5, append([]api.Token{word("a")}, slices.Repeat([]api.Token{number(1000)}, 1<<20)...))
	checkMatch(t, []api.Form{form("a", "whole*")}, []api.Line{many}, api.Fault{})
	checkMatch(t, []api.Form{form("a", "whole")}, []api.Line{many}, fault(api.ErrSyntax, 5, 7))
}
