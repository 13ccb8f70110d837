package parser_test

import (
	"math"
	"math/rand"
	"reflect"
	"slices"
	"strings"
	"testing"

	"plenum/api"
	"plenum/lexer"
	"plenum/parser"
)

// word makes a token.
func word(s string, col int) api.Token { return api.Token{Kind: api.TokWord, Text: s, At: col} }

// line makes a line of one word, which is a heading if it has kids.
func line(s string, at int, kids ...api.Line) api.Line {
	return api.Line{Tokens: []api.Token{word(s, 1)}, Heading: len(kids) > 0, Kids: kids, At: at}
}

// clean returns a tree with nil in place of empty slices, in new memory.
func clean(lines []api.Line) []api.Line {
	var result []api.Line
	for _, l := range lines {
		l.Tokens = append([]api.Token(nil), l.Tokens...)
		l.Kids = clean(l.Kids)
		result = append(result, l)
	}
	return result
}

// same reports whether two trees are equal, where nil and empty slices are equivalent.
func same(a, b []api.Line) bool { return reflect.DeepEqual(clean(a), clean(b)) }

// spoil changes all that a tree refers to.
func spoil(lines []api.Line) {
	for i := range lines {
		l := &lines[i]
		spoil(l.Kids)
		for j := range l.Tokens {
			l.Tokens[j] = word("spoiled", -1)
		}
		_ = append(l.Tokens, word("more", -1))
		_ = append(l.Kids, line("more", -1))
		lines[i] = line("spoiled", -1)
	}
	_ = append(lines, line("more", -1))
}

// treeOf is the definition of the tree of lines and depths: each line belongs to the nearest one before it that is one step less deep.
func treeOf(lines []api.Line, depths []int) []api.Line {
	kids := map[int][]int{}
	for i, depth := range depths {
		parent := -1
		for j := range i {
			if depths[j] == depth-1 {
				parent = j
			}
		}
		kids[parent] = append(kids[parent], i)
	}
	var build func(parent int) []api.Line
	build = func(parent int) []api.Line {
		var tree []api.Line
		for _, i := range kids[parent] {
			l := lines[i]
			l.Kids = build(i)
			tree = append(tree, l)
		}
		return tree
	}
	return build(-1)
}

// parse is the definition of Parse for sources that are not too long.
func parse(source string) ([]api.Line, api.Fault) {
	var lines []api.Line
	var depths []int
	most := 0
	for i, text := range strings.Split(source, "\n") {
		scanned, fault := lexer.Scan(text)
		if fault.Code != api.OK {
			return nil, api.Fault{Code: fault.Code, Line: i + 1, Col: fault.Col}
		}
		if len(scanned.Tokens) == 0 {
			continue
		}
		if scanned.Indent > most {
			return nil, api.Fault{Code: api.ErrSyntax, Line: i + 1, Col: 2*scanned.Indent + 1}
		}
		most = scanned.Indent
		if scanned.Heading {
			most++
		}
		lines = append(lines, api.Line{Tokens: scanned.Tokens, Heading: scanned.Heading, At: i + 1})
		depths = append(depths, scanned.Indent)
	}
	return treeOf(lines, depths), api.Fault{}
}

// checkParse compares the tree of a source, or its fault, with what it should be.
func checkParse(t *testing.T, source string, want []api.Line, wanted api.Fault) {
	t.Helper()
	if got, fault := parser.Parse(source); fault != wanted || !same(got, want) {
		t.Errorf("Parse(%.200q): %.500v, %v, not %.500v, %v", source, got, fault, want, wanted)
	}
}

// example is the first example of the chapter.
const example = "site hall:\n  device a:\n    point t\nnote"

// exampleTree is the tree of the example.
func exampleTree() []api.Line {
	return []api.Line{
		{Tokens: []api.Token{word("site", 1), word("hall", 6)}, Heading: true, At: 1, Kids: []api.Line{
			{Tokens: []api.Token{word("device", 3), word("a", 10)}, Heading: true, At: 2, Kids: []api.Line{
				{Tokens: []api.Token{word("point", 5), word("t", 11)}, At: 3},
			}},
		}},
		{Tokens: []api.Token{word("note", 1)}, At: 4},
	}
}

// odd are trees that no source has.
func odd() [][]api.Line {
	deep := []api.Line{line("end", 7)}
	for i := range 100 {
		deep = []api.Line{{Kids: deep, At: i, Heading: i%2 == 0}}
	}
	bare := api.Line{Kids: []api.Line{{}, {At: 3}, {Heading: true, At: -1}}}
	return [][]api.Line{
		{{}}, {{}, {}}, {bare, bare}, {bare, {Kids: []api.Line{bare, line("a", 1)}}, line("a", 1)}, deep, {line("b", math.MaxInt), line("c", math.MinInt, line("d", math.MinInt))},
		{{Tokens: []api.Token{{Kind: api.TokWord}}, Kids: []api.Line{line("x", 2)}}, {Tokens: []api.Token{{Kind: api.TokText, Text: "a"}, word("b", 4)}}}, {{Tokens: []api.Token{}, Kids: []api.Line{}}},
	}
}

// randomTree returns any tree, in which lines are perhaps alike.
func randomTree(source *rand.Rand, depth int) []api.Line {
	var lines []api.Line
	for range source.Intn(5) {
		l := api.Line{At: source.Intn(20), Heading: source.Intn(2) == 0}
		for range source.Intn(3) {
			l.Tokens = append(l.Tokens, api.Token{Kind: source.Intn(4), Text: string("ab"[source.Intn(2)]), At: source.Intn(5)})
		}
		if depth > 0 && source.Intn(2) == 0 {
			l.Kids = randomTree(source, depth-1)
		}
		lines = append(lines, l)
	}
	return lines
}

// trees are ordinary trees, odd ones and random ones.
func trees() [][]api.Line {
	source := rand.New(rand.NewSource(8))
	list := append(odd(), nil, []api.Line{}, exampleTree(), exampleTree()[:1], exampleTree()[1:])
	for range 2000 {
		list = append(list, randomTree(source, 6))
	}
	return list
}

// randomSource returns a source that has no fault, or perhaps one.
func randomSource(source *rand.Rand) string {
	text := ""
	depth, rare := 0, 5+source.Intn(60)
	for range source.Intn(30) {
		switch source.Intn(rare) {
		case 0:
			depth += source.Intn(3)
		case 1:
			text += []string{"07", " ", "\t", ";", ":", "24:00"}[source.Intn(6)]
		case 2:
			text += strings.Repeat(" ", source.Intn(9)) + "# note:\n"
		case 3:
			text += strings.Repeat(" ", source.Intn(9)) + "\n"
		}
		text += strings.Repeat("  ", depth) + []string{"a", "b 5", "5", "c(x) # d:", "\"t\""}[source.Intn(5)]
		if depth < 6 && source.Intn(2) == 0 {
			text += ":"
			depth += source.Intn(2)
		} else {
			depth -= source.Intn(depth + 1)
		}
		text += "\n"
	}
	return strings.TrimSuffix(text, strings.Repeat("\n", source.Intn(2)))
}

func TestP8_1Example(t *testing.T) {
	checkParse(t, example, exampleTree(), api.Fault{})
	checkParse(t, example+"\n", exampleTree(), api.Fault{})
}

func TestP8_1Trees(t *testing.T) {
	a := func(at, col int, heading bool, kids ...api.Line) api.Line {
		return api.Line{Tokens: []api.Token{word("a", col)}, Heading: heading, Kids: kids, At: at}
	}
	for _, c := range []struct {
		source string
		want   []api.Line
	}{
		{"", nil}, {"\n\n", nil}, {"  # only a note\n\n   \n# a:\n", nil},
		{"a\na\n", []api.Line{a(1, 1, false), a(2, 1, false)}}, {"a:", []api.Line{a(1, 1, true)}}, {"a:\na:\na", []api.Line{a(1, 1, true), a(2, 1, true), a(3, 1, false)}},
		{"a:\n\n # x\n  a # y:\n\na", []api.Line{a(1, 1, true, a(4, 3, false)), a(6, 1, false)}},
		{"a:\n  a:\n  a:\n    a\n  a\na", []api.Line{a(1, 1, true, a(2, 3, true), a(3, 3, true, a(4, 5, false)), a(5, 3, false)), a(6, 1, false)}},
		{"a:\n  a:\n    a:\n      a\na:\n  a", []api.Line{a(1, 1, true, a(2, 3, true, a(3, 5, true, a(4, 7, false)))), a(5, 1, true, a(6, 3, false))}},
	} {
		checkParse(t, c.source, c.want, api.Fault{})
	}
}

func TestP8_1Faults(t *testing.T) {
	fault := func(e api.Errno, line, col int) api.Fault { return api.Fault{Code: e, Line: line, Col: col} }
	deep := ""
	for depth := range 7 {
		deep += strings.Repeat("  ", depth) + "a:\n"
	}
	for _, c := range []struct {
		source string
		want   api.Fault
	}{
		{strings.Replace(example, "    point", "      point", 1), fault(api.ErrSyntax, 3, 7)}, {strings.Replace(example, "a:", "a", 1), fault(api.ErrSyntax, 3, 5)},
		{"  a\n", fault(api.ErrSyntax, 1, 3)}, {"# x:\n\n    a\n", fault(api.ErrSyntax, 3, 5)}, {"a\n  b\n", fault(api.ErrSyntax, 2, 3)}, {"a:\n    b\n", fault(api.ErrSyntax, 2, 5)}, {"a:\n  b\n    c\n", fault(api.ErrSyntax, 3, 5)}, {"a:\n  b\nc\n  d", fault(api.ErrSyntax, 4, 3)}, {"a:\n  b:\nc\n    d", fault(api.ErrSyntax, 4, 5)}, {"a:\n\nb\n  c", fault(api.ErrSyntax, 4, 3)},
		{"a:\n b\n", fault(api.ErrSyntax, 2, 2)}, {"a\n\n7:30\n", fault(api.ErrSyntax, 3, 1)}, {"a\nb \"\"\n", fault(api.ErrName, 2, 3)}, {"a\nb 24:00", fault(api.ErrRange, 2, 3)}, {":\n", fault(api.ErrSyntax, 1, 1)}, {"a\r\n", fault(api.ErrSyntax, 1, 2)},
		{"a\n\n" + strings.Repeat(" ", 1001) + "\n", fault(api.ErrTooMany, 3, 1001)}, {"a:\n" + strings.Repeat(" ", 14) + "b", fault(api.ErrTooMany, 2, 15)}, {deep + strings.Repeat(" ", 14) + "b", fault(api.ErrTooMany, 8, 15)},
		// The first line with a fault counts, and in a line the fault of the lexer.
		{"a\n  b\n07\n", fault(api.ErrSyntax, 2, 3)}, {"a\n24:00\n  b\n", fault(api.ErrRange, 2, 1)}, {"a\n  b 24:00\n", fault(api.ErrRange, 2, 5)}, {"a\n  \"\"\n", fault(api.ErrName, 2, 3)}, {"   a\n07", fault(api.ErrSyntax, 1, 4)},
		{strings.Repeat("\n", api.MaxSource+1), fault(api.ErrTooMany, 1, 1)}, {"07" + strings.Repeat("x", api.MaxSource), fault(api.ErrTooMany, 1, 1)}, {strings.Repeat("a", api.MaxSource), fault(api.ErrTooMany, 1, 1001)},
	} {
		checkParse(t, c.source, nil, c.want)
	}
	checkParse(t, strings.Repeat("\n", api.MaxSource), nil, api.Fault{})
	checkParse(t, strings.Repeat("\n", api.MaxSource-1)+"a", []api.Line{line("a", api.MaxSource)}, api.Fault{})
}

func TestP8_1RandomSources(t *testing.T) {
	source := rand.New(rand.NewSource(81))
	good := 0
	for range 20000 {
		text := randomSource(source)
		want, wanted := parse(text)
		checkParse(t, text, want, wanted)
		if wanted.Code == api.OK {
			good++
		}
	}
	if good < 5000 || good > 15000 {
		t.Errorf("%d sources without a fault", good)
	}
}

func TestP8_1Long(t *testing.T) {
	for _, part := range []string{"a\n", "a:\n  b:\n    c\n", "a:\n  a:\n    a:\n      a:\n        a:\n          a:\n            a\n", " \n", "#\n"} {
		text := strings.Repeat(part, api.MaxSource/len(part))
		tree, fault := parser.Parse(text)
		if want := strings.Count(text, "a") + strings.Count(text, "b") + strings.Count(text, "c"); fault != (api.Fault{}) || parser.Count(tree) != want {
			t.Errorf("%q repeated: %d lines, %v", part, parser.Count(tree), fault)
		}
	}
}

// count and depth are the definitions of Count and Depth.
func count(lines []api.Line) int {
	n := 0
	for _, l := range lines {
		n += 1 + count(l.Kids)
	}
	return n
}

func depth(lines []api.Line) int {
	n := 0
	for _, l := range lines {
		n = max(n, 1+depth(l.Kids))
	}
	return n
}

func TestP8_2CountAndDepth(t *testing.T) {
	for _, c := range []struct {
		lines        []api.Line
		count, depth int
	}{
		{nil, 0, 0}, {[]api.Line{}, 0, 0}, {exampleTree(), 4, 3}, {exampleTree()[1:], 1, 1}, {[]api.Line{{}, {}}, 2, 1}, {odd()[4], 101, 101},
		{[]api.Line{line("a", 1, line("b", 2)), line("c", 3, line("d", 4, line("e", 5))), line("f", 6, line("g", 7))}, 7, 3},
	} {
		if n, d := parser.Count(c.lines), parser.Depth(c.lines); n != c.count || d != c.depth {
			t.Errorf("%.100v: %d and %d, not %d and %d", c.lines, n, d, c.count, c.depth)
		}
	}
	for _, tree := range trees() {
		if n, d := parser.Count(tree), parser.Depth(tree); n != count(tree) || d != depth(tree) {
			t.Errorf("%.100v: %d and %d, not %d and %d", tree, n, d, count(tree), depth(tree))
		}
	}
}

func TestP8_2Word(t *testing.T) {
	for _, c := range []struct {
		tokens []api.Token
		want   string
	}{
		{nil, ""}, {[]api.Token{}, ""}, {[]api.Token{word("a", 1), word("b", 3)}, "a"}, {[]api.Token{{Kind: api.TokText, Text: "a"}}, ""}, {[]api.Token{{Kind: api.TokDate, Text: "*-*-*"}, word("a", 1)}, ""}, {[]api.Token{{Kind: api.TokSign, Text: "("}}, ""}, {[]api.Token{{Kind: api.TokNumber, N: 5}}, ""}, {[]api.Token{{Kind: api.TokTime}}, ""}, {[]api.Token{{Text: "a"}}, ""}, {[]api.Token{{Kind: -1, Text: "a"}}, ""}, {[]api.Token{{Kind: api.TokWord, Text: "a b", N: 7, At: -1}}, "a b"},
	} {
		for _, l := range []api.Line{{Tokens: c.tokens}, {Tokens: c.tokens, Heading: true, At: 4, Kids: []api.Line{line("k", 5)}}} {
			if got := parser.Word(l); got != c.want {
				t.Errorf("Word(%v): %q, not %q", l, got, c.want)
			}
		}
	}
}

func TestP8_2Find(t *testing.T) {
	tree := []api.Line{line("a", 1, line("b", 2, line("a", 3)), line("a", 4)), line("b", 5), {Tokens: []api.Token{{Kind: api.TokText, Text: "a"}}, At: 6}, line("a", 7), {At: 8, Kids: []api.Line{line("a", 9)}}}
	for _, c := range []struct {
		word string
		want []api.Line
	}{
		{"a", []api.Line{tree[0], tree[3]}}, {"b", []api.Line{tree[1]}}, {"", []api.Line{tree[2], tree[4]}}, {"c", nil}, {"a ", nil}, {"aa", nil}, {strings.Repeat("a", 1<<20), nil},
	} {
		if got := parser.Find(tree, c.word); !same(got, c.want) {
			t.Errorf("Find %.20q: %v, not %v", c.word, got, c.want)
		}
	}
	for _, tree := range trees() {
		for _, word := range []string{"a", "b", ""} {
			var want []api.Line
			for _, l := range tree {
				if parser.Word(l) == word {
					want = append(want, l)
				}
			}
			if got := parser.Find(tree, word); !same(got, want) {
				t.Errorf("Find %q in %.100v: %.100v", word, tree, got)
			}
		}
	}
}

// flat is the definition of Flat.
func flat(lines []api.Line, depth int) (all []api.Line, depths []int) {
	for _, l := range lines {
		kids, deeper := flat(l.Kids, depth+1)
		l.Kids = nil
		all = append(append(all, l), kids...)
		depths = append(append(depths, depth), deeper...)
	}
	return all, depths
}

func TestP8_3Flat(t *testing.T) {
	lines, depths := parser.Flat(exampleTree())
	if len(lines) != 4 || !slices.Equal(depths, []int{0, 1, 2, 0}) || parser.Word(lines[1]) != "device" || !lines[1].Heading || lines[1].At != 2 || len(lines[1].Kids) != 0 {
		t.Errorf("the example: %v, %v", lines, depths)
	}
	for _, tree := range trees() {
		lines, depths := parser.Flat(tree)
		want, wanted := flat(tree, 0)
		if !same(lines, want) || !slices.Equal(depths, wanted) {
			t.Errorf("Flat(%.100v): %.100v, %.100v", tree, lines, depths)
		}
	}
}

func TestP8_3Nest(t *testing.T) {
	a, b := api.Line{Heading: true, At: 1}, line("b", 2)
	seven := []api.Line{a, a, a, a, a, a, b}
	for _, c := range []struct {
		lines  []api.Line
		depths []int
		want   []api.Line
	}{
		{nil, nil, nil}, {[]api.Line{}, []int{}, nil}, {[]api.Line{b}, []int{0}, []api.Line{b}}, {[]api.Line{{}}, []int{0}, []api.Line{{}}}, {[]api.Line{{Kids: []api.Line{}}, {}}, []int{0, 0}, []api.Line{{}, {}}},
		{[]api.Line{a, b, b}, []int{0, 1, 0}, []api.Line{{Heading: true, At: 1, Kids: []api.Line{b}}, b}}, {[]api.Line{a, a, b, b, b}, []int{0, 1, 2, 1, 1}, []api.Line{{Heading: true, At: 1, Kids: []api.Line{{Heading: true, At: 1, Kids: []api.Line{b}}, b, b}}}},
		{[]api.Line{a, a, b}, []int{0, 0, 1}, []api.Line{a, {Heading: true, At: 1, Kids: []api.Line{b}}}}, {[]api.Line{a, {}, b}, []int{0, 1, 0}, []api.Line{{Heading: true, At: 1, Kids: []api.Line{{}}}, b}},
		{seven, []int{0, 1, 2, 3, 4, 5, 6}, treeOf(seven, []int{0, 1, 2, 3, 4, 5, 6})},
	} {
		if got, e := parser.Nest(c.lines, c.depths); e != api.OK || !same(got, c.want) {
			t.Errorf("Nest(%v, %v): %v, %d, not %v", c.lines, c.depths, got, e, c.want)
		}
	}
}

func TestP8_3NestErrors(t *testing.T) {
	a, b := api.Line{Heading: true}, line("b", 2)
	k := api.Line{Heading: true, Kids: []api.Line{b}}
	for _, c := range []struct {
		lines  []api.Line
		depths []int
		want   api.Errno
	}{
		{[]api.Line{a}, nil, api.ErrInvalid}, {nil, []int{0}, api.ErrInvalid}, {[]api.Line{a, b}, []int{0}, api.ErrInvalid}, {[]api.Line{a}, []int{0, 1}, api.ErrInvalid}, {[]api.Line{a}, []int{7, 7}, api.ErrInvalid},
		{[]api.Line{k}, []int{0}, api.ErrInvalid}, {[]api.Line{b, a, k}, []int{0, 0, 0}, api.ErrInvalid}, {[]api.Line{b, k}, []int{-1, 0}, api.ErrInvalid}, {[]api.Line{a, k}, []int{7, 7}, api.ErrInvalid}, {[]api.Line{{Kids: []api.Line{{}}}}, []int{9}, api.ErrInvalid},
		{[]api.Line{b}, []int{1}, api.ErrSyntax}, {[]api.Line{b}, []int{-1}, api.ErrSyntax}, {[]api.Line{b}, []int{math.MaxInt}, api.ErrSyntax}, {[]api.Line{b}, []int{math.MinInt}, api.ErrSyntax},
		{[]api.Line{a, b}, []int{0, 2}, api.ErrSyntax}, {[]api.Line{a, b}, []int{0, math.MaxInt}, api.ErrSyntax}, {[]api.Line{a, b}, []int{0, -1}, api.ErrSyntax}, {[]api.Line{b, b}, []int{0, 1}, api.ErrSyntax}, {[]api.Line{a, b, b}, []int{0, 1, 2}, api.ErrSyntax}, {[]api.Line{a, a, b, b}, []int{0, 1, 0, 1}, api.ErrSyntax}, {[]api.Line{a, {}, b}, []int{0, 0, 1}, api.ErrSyntax},
		{[]api.Line{a, a, a, a, a, a, a, b}, []int{0, 1, 2, 3, 4, 5, 6, 7}, api.ErrSyntax},
	} {
		if got, e := parser.Nest(c.lines, c.depths); e != c.want || len(got) != 0 {
			t.Errorf("Nest(%v, %v): %v, %d, not %d", c.lines, c.depths, got, e, c.want)
		}
	}
}

func TestP8_3NestAll(t *testing.T) {
	// All depths and headings of four lines.
	for code := range 7 * 7 * 7 * 7 * 8 {
		var lines []api.Line
		var depths []int
		want, most := api.OK, 0
		for i := range 4 {
			l := line(string("abcd"[i]), i+1)
			l.Heading = code>>i&1 == 1 && i < 3
			depth := code/8/[]int{1, 7, 49, 343}[i]%7 - 1
			if depth < 0 || depth > most {
				want = api.ErrSyntax
			}
			most = depth
			if l.Heading {
				most++
			}
			lines, depths = append(lines, l), append(depths, depth)
		}
		var tree []api.Line
		if want == api.OK {
			tree = treeOf(lines, depths)
		}
		if got, e := parser.Nest(lines, depths); e != want || !same(got, tree) {
			t.Errorf("Nest(%v, %v): %v, %d", lines, depths, got, e)
		}
	}
}

// numbered returns the ways to all lines of a tree with a number, in the order of the tree.
func numbered(lines []api.Line, number int, way []int) [][]int {
	var found [][]int
	for i, l := range lines {
		here := append(slices.Clone(way), i)
		if l.At == number {
			found = append(found, here)
		}
		found = append(found, numbered(l.Kids, number, here)...)
	}
	return found
}

func TestP8_4Locate(t *testing.T) {
	for number, want := range map[int][]int{1: {0}, 2: {0, 0}, 3: {0, 0, 0}, 4: {1}} {
		if way, e := parser.Locate(exampleTree(), number); e != api.OK || !slices.Equal(way, want) {
			t.Errorf("Locate %d: %v, %d", number, way, e)
		}
	}
	for _, tree := range trees() {
		for _, number := range []int{0, 1, 2, 3, 4, 5, 7, 19, 20, -1, math.MinInt, math.MaxInt} {
			way, e := parser.Locate(tree, number)
			found := numbered(tree, number, nil)
			switch {
			case len(found) == 0 && (e != api.ErrNone || len(way) != 0):
				t.Errorf("Locate %d in %.100v: %v, %d", number, tree, way, e)
			case len(found) > 0 && (e != api.OK || !slices.Equal(way, found[0])):
				t.Errorf("Locate %d in %.100v: %v, %d, not %v", number, tree, way, e, found[0])
			}
		}
	}
}

func TestP8_5Sources(t *testing.T) {
	source := rand.New(rand.NewSource(85))
	for range 5000 {
		text := randomSource(source)
		tree, fault := parser.Parse(text)
		if fault.Code != api.OK {
			continue
		}
		lines, depths := parser.Flat(tree)
		for i, l := range lines {
			if i > 0 && l.At <= lines[i-1].At {
				t.Errorf("%q: line %d behind line %d", text, l.At, lines[i-1].At)
			}
			if i+1 < len(lines) && depths[i+1] > depths[i] && !l.Heading {
				t.Errorf("%q: line %d has kids and is no heading", text, l.At)
			}
		}
		if parser.Depth(tree) > api.MaxIndent+1 {
			t.Errorf("%q: Depth is %d", text, parser.Depth(tree))
		}
		if again, e := parser.Nest(lines, depths); e != api.OK || !same(again, tree) {
			t.Errorf("%q: Nest of Flat: %v, %d", text, again, e)
		}
		// Lines without tokens and comments change nothing but numbers.
		more, fault := parser.Parse("# a:\n" + strings.ReplaceAll(text, "\n", " # b:\n \n\n   # c\n"))
		others, deep := parser.Flat(more)
		if fault.Code != api.OK || !slices.Equal(deep, depths) {
			t.Errorf("%q with more lines: %v, %v", text, deep, fault)
		}
		for i := range others {
			others[i].At = lines[i].At
		}
		if !same(others, lines) {
			t.Errorf("%q with more lines: %v, not %v", text, others, lines)
		}
	}
}

func TestP8_5Deepest(t *testing.T) {
	text := ""
	for depth := range 7 {
		text += strings.Repeat("  ", depth) + "a:\n"
	}
	if tree, fault := parser.Parse(text); fault != (api.Fault{}) || parser.Depth(tree) != 7 {
		t.Errorf("seven headings: %v, %v", tree, fault)
	}
}

func TestP8Memory(t *testing.T) {
	for i, tree := range trees() {
		before := clean(tree)
		found := parser.Find(tree, "a")
		lines, depths := parser.Flat(tree)
		nested, _ := parser.Nest(lines, depths)
		flatBefore, depthsBefore, nestedBefore := clean(lines), slices.Clone(depths), clean(nested)
		if same(found, nil) && same(lines, nil) {
			continue
		}
		spoil(found)
		spoil(nested)
		if !same(tree, before) || !same(lines, flatBefore) || !slices.Equal(depths, depthsBefore) {
			t.Errorf("tree %d: changed by its results", i)
		}
		nested, _ = parser.Nest(lines, depths)
		spoil(lines)
		clear(depths)
		if !same(tree, before) || !same(nested, nestedBefore) {
			t.Errorf("tree %d: changed by lines or depths", i)
		}
	}
}

func TestP8Appended(t *testing.T) {
	// What is appended to a slice of a result changes no other one.
	tree, _ := parser.Parse("a 1:\n  b 2:\n    c 3\n  d 4:\n    e 5\nf 6:\n  g 7")
	lines, depths := parser.Flat(tree)
	nested, _ := parser.Nest(lines, depths)
	for i, tree := range [][]api.Line{tree, nested, lines, parser.Find(tree, "a")} {
		before := clean(tree)
		var grow func(lines []api.Line)
		grow = func(lines []api.Line) {
			_ = append(lines, line("more", -1))
			for _, l := range lines {
				_ = append(l.Tokens, word("more", -1))
				grow(l.Kids)
			}
		}
		grow(tree)
		if !same(tree, before) {
			t.Errorf("result %d: changed by appending", i)
		}
	}
}

func TestP8Deep(t *testing.T) {
	tree := []api.Line{line("end", 5)}
	for range 1<<16 - 1 {
		tree = []api.Line{{Kids: tree, Heading: true, Tokens: []api.Token{word("a", 1)}}}
	}
	lines, depths := parser.Flat(tree)
	if n := len(lines); parser.Count(tree) != n || n != 1<<16 || parser.Depth(tree) != n || depths[n-1] != n-1 || parser.Count(parser.Find(tree, "a")) != n {
		t.Errorf("a deep tree: %d lines", n)
	}
	if way, e := parser.Locate(tree, 5); e != api.OK || len(way) != 1<<16 {
		t.Errorf("a deep tree: Locate: %d indices, %d", len(way), e)
	}
	if _, e := parser.Nest(lines, depths); e != api.ErrSyntax {
		t.Errorf("a deep tree: Nest: %d", e)
	}
}
