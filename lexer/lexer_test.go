package lexer_test

import (
	"math/big"
	"math/rand"
	"reflect"
	"regexp"
	"strconv"
	"strings"
	"testing"

	"plenum/api"
	"plenum/lexer"
)

// word, number, text, clock, date and sign make tokens without a column.
func word(s string) api.Token           { return api.Token{Kind: api.TokWord, Text: s} }
func number(n int64) api.Token          { return api.Token{Kind: api.TokNumber, N: n} }
func text(s string) api.Token           { return api.Token{Kind: api.TokText, Text: s} }
func clock(n int64) api.Token           { return api.Token{Kind: api.TokTime, N: n} }
func date(s string) api.Token           { return api.Token{Kind: api.TokDate, Text: s} }
func sign(s string) api.Token           { return api.Token{Kind: api.TokSign, Text: s} }
func in(col int, t api.Token) api.Token { t.At = col; return t }

// fault makes a fault of a line.
func fault(e api.Errno, col int) api.Fault { return api.Fault{Code: e, Col: col} }

// same reports whether two lines were read alike, where no tokens are none.
func same(a, b lexer.Scanned) bool {
	if len(a.Tokens) == 0 && len(b.Tokens) == 0 {
		a.Tokens, b.Tokens = nil, nil
	}
	return reflect.DeepEqual(a, b)
}

// checkLine compares a line that was read, or its fault, with what the definition says.
func checkLine(t *testing.T, line string, want lexer.Scanned, wanted api.Fault) {
	t.Helper()
	if got, f := lexer.Scan(line); f != wanted || !same(got, want) {
		t.Errorf("Scan(%q): %v, %v, not %v, %v", line, got, f, want, wanted)
	}
}

// The forms of tokens, as regular expressions. In a run the byte 1 stands for a colon between two digits.
var (
	wordForm   = regexp.MustCompile(`^[A-Za-z][A-Za-z0-9_/]*`)
	runForm    = regexp.MustCompile(`^[0-9*-][0-9*.\x01-]*`)
	textForm   = regexp.MustCompile(`^"([ -~]*?)"`)
	labelForm  = regexp.MustCompile(`^[!#-~]([ !#-~]{0,38}[!#-~])?$`)
	clockForm  = regexp.MustCompile(`^([0-9]{2})\x01([0-9]{2})$`)
	dateForm   = regexp.MustCompile(`^([0-9]{4}|\*)-([0-9]{2}|\*)-([0-9]{2}|\*)$`)
	numberForm = regexp.MustCompile(`^(-?)(0|[1-9][0-9]*)(\.[0-9]{1,3})?$`)
)

// marked puts the byte 1 in place of each colon between two digits.
func marked(line string) string {
	bytes := []byte(line)
	digit := func(i int) bool { return i >= 0 && i < len(line) && line[i] >= '0' && line[i] <= '9' }
	for i, c := range bytes {
		if c == ':' && digit(i-1) && digit(i+1) {
			bytes[i] = 1
		}
	}
	return string(bytes)
}

// runToken is the definition of times, dates and numbers.
func runToken(run string) (api.Token, api.Errno) {
	value := func(s string) int { n, _ := strconv.Atoi(s); return n }
	if m := clockForm.FindStringSubmatch(run); m != nil {
		if value(m[1]) > 23 || value(m[2]) > 59 {
			return api.Token{}, api.ErrRange
		}
		return clock(int64(value(m[1])*60 + value(m[2]))), api.OK
	}
	if m := dateForm.FindStringSubmatch(run); m != nil {
		if m[2] != "*" && (value(m[2]) < 1 || value(m[2]) > 12) || m[3] != "*" && (value(m[3]) < 1 || value(m[3]) > 31) {
			return api.Token{}, api.ErrRange
		}
		return date(run), api.OK
	}
	m := numberForm.FindStringSubmatch(run)
	if m == nil {
		return api.Token{}, api.ErrSyntax
	}
	thousandths, _ := new(big.Rat).SetString(run)
	thousandths.Mul(thousandths, big.NewRat(1000, 1))
	switch {
	case m[1] == "-" && thousandths.Sign() == 0:
		return api.Token{}, api.ErrSyntax
	case new(big.Rat).Abs(thousandths).Cmp(big.NewRat(api.MaxAnalog, 1)) > 0:
		return api.Token{}, api.ErrRange
	}
	return number(thousandths.Num().Int64()), api.OK
}

// firstToken is the definition of the token at the begin of a text, and of its length.
func firstToken(s string) (api.Token, int, api.Errno) {
	if w := wordForm.FindString(s); w != "" {
		if len(w) > 49 {
			return api.Token{}, 0, api.ErrTooMany
		}
		return word(w), len(w), api.OK
	}
	if run := runForm.FindString(marked(s)); run != "" {
		t, e := runToken(run)
		return t, len(run), e
	}
	if m := textForm.FindStringSubmatch(s); m != nil {
		if !labelForm.MatchString(m[1]) {
			return api.Token{}, 0, api.ErrName
		}
		return text(m[1]), len(m[0]), api.OK
	}
	if strings.Contains("(),=:<>", s[:1]) {
		return sign(s[:1]), 1, api.OK
	}
	return api.Token{}, 0, api.ErrSyntax
}

// define is the definition of Scan for lines without the byte 1.
func define(line string) (lexer.Scanned, api.Fault) {
	if len(line) > 1000 {
		return lexer.Scanned{}, fault(api.ErrTooMany, 1001)
	}
	scanned := lexer.Scanned{}
	rest := line
	for {
		rest = strings.TrimLeft(rest, " ")
		if rest == "" {
			break
		}
		before := len(line) - len(rest)
		if rest[0] == '#' {
			scanned.Comment = rest[1:]
			break
		}
		blanks := len(line) - len(strings.TrimLeft(line, " "))
		switch {
		case blanks%2 == 1:
			return lexer.Scanned{}, fault(api.ErrSyntax, blanks+1)
		case blanks > 12:
			return lexer.Scanned{}, fault(api.ErrTooMany, blanks+1)
		case len(scanned.Tokens) == 64:
			return lexer.Scanned{}, fault(api.ErrTooMany, before+1)
		}
		token, length, e := firstToken(rest)
		if e != api.OK {
			return lexer.Scanned{}, fault(e, before+1)
		}
		scanned.Indent = blanks / 2
		scanned.Tokens = append(scanned.Tokens, in(before+1, token))
		rest = rest[length:]
	}
	if n := len(scanned.Tokens); n > 0 && scanned.Tokens[n-1].Kind == api.TokSign && scanned.Tokens[n-1].Text == ":" {
		if n == 1 {
			return lexer.Scanned{}, fault(api.ErrSyntax, scanned.Tokens[0].At)
		}
		scanned.Tokens, scanned.Heading = scanned.Tokens[:n-1], true
	}
	return scanned, api.Fault{}
}

func TestP7_1Example(t *testing.T) {
	checkLine(t, `  at 06:30 = 21.50, "Main hall": # heat`, lexer.Scanned{
		Indent:  1,
		Tokens:  []api.Token{in(3, word("at")), in(6, clock(390)), in(12, sign("=")), in(14, number(21500)), in(19, sign(",")), in(21, text("Main hall"))},
		Heading: true,
		Comment: " heat",
	}, api.Fault{})
}

func TestP7_1Tokens(t *testing.T) {
	for _, c := range []struct {
		line string
		want []api.Token
	}{
		{"a", []api.Token{in(1, word("a"))}}, {"Zz09_/", []api.Token{in(1, word("Zz09_/"))}}, {"a/b/c//", []api.Token{in(1, word("a/b/c//"))}}, {strings.Repeat("x", 49), []api.Token{in(1, word(strings.Repeat("x", 49)))}},
		{"a-5", []api.Token{in(1, word("a")), in(2, number(-5000))}}, {"5a", []api.Token{in(1, number(5000)), in(2, word("a"))}}, {"a5:5", []api.Token{in(1, word("a5")), in(3, sign(":")), in(4, number(5000))}},
		{"0", []api.Token{in(1, number(0))}}, {"0.0", []api.Token{in(1, number(0))}}, {"0.5", []api.Token{in(1, number(500))}}, {"-0.5", []api.Token{in(1, number(-500))}}, {"-0.001", []api.Token{in(1, number(-1))}}, {"7.10", []api.Token{in(1, number(7100))}}, {"10", []api.Token{in(1, number(10000))}}, {"100.05", []api.Token{in(1, number(100050))}},
		{"1000000000", []api.Token{in(1, number(api.MaxAnalog))}}, {"-1000000000.000", []api.Token{in(1, number(-api.MaxAnalog))}}, {"999999999.999", []api.Token{in(1, number(api.MaxAnalog-1))}}, {"1 -2", []api.Token{in(1, number(1000)), in(3, number(-2000))}},
		{"00:00", []api.Token{in(1, clock(0))}}, {"23:59", []api.Token{in(1, clock(1439))}}, {"07:05", []api.Token{in(1, clock(425))}}, {"06:30:a", []api.Token{in(1, clock(390)), in(6, sign(":")), in(7, word("a"))}}, {"5: 30", []api.Token{in(1, number(5000)), in(2, sign(":")), in(4, number(30000))}}, {"5 :30", []api.Token{in(1, number(5000)), in(3, sign(":")), in(4, number(30000))}}, {"1::2", []api.Token{in(1, number(1000)), in(2, sign(":")), in(3, sign(":")), in(4, number(2000))}},
		{"2026-01-31", []api.Token{in(1, date("2026-01-31"))}}, {"2026-*-31", []api.Token{in(1, date("2026-*-31"))}}, {"*-12-25", []api.Token{in(1, date("*-12-25"))}}, {"*-*-*", []api.Token{in(1, date("*-*-*"))}}, {"0000-02-31", []api.Token{in(1, date("0000-02-31"))}}, {"9999-12-01", []api.Token{in(1, date("9999-12-01"))}}, {"*-*-01", []api.Token{in(1, date("*-*-01"))}},
		{`"a"`, []api.Token{in(1, text("a"))}}, {`"a b"c`, []api.Token{in(1, text("a b")), in(6, word("c"))}}, {`"a""b"`, []api.Token{in(1, text("a")), in(4, text("b"))}}, {`"# 06:30, (x): ~!"`, []api.Token{in(1, text("# 06:30, (x): ~!"))}}, {`"` + strings.Repeat("y", 40) + `"`, []api.Token{in(1, text(strings.Repeat("y", 40)))}}, {`":"`, []api.Token{in(1, text(":"))}},
		{"(),=:<>(", []api.Token{in(1, sign("(")), in(2, sign(")")), in(3, sign(",")), in(4, sign("=")), in(5, sign(":")), in(6, sign("<")), in(7, sign(">")), in(8, sign("("))}}, {":a", []api.Token{in(1, sign(":")), in(2, word("a"))}}, {"<=", []api.Token{in(1, sign("<")), in(2, sign("="))}},
		{"and(a/b,  -1.5)", []api.Token{in(1, word("and")), in(4, sign("(")), in(5, word("a/b")), in(8, sign(",")), in(11, number(-1500)), in(15, sign(")"))}},
	} {
		checkLine(t, c.line, lexer.Scanned{Tokens: c.want}, api.Fault{})
	}
}

func TestP7_1Indentation(t *testing.T) {
	for _, c := range []struct {
		line string
		want lexer.Scanned
	}{
		{"", lexer.Scanned{}}, {"   ", lexer.Scanned{}}, {strings.Repeat(" ", 1000), lexer.Scanned{}}, {"#", lexer.Scanned{}}, {" # x", lexer.Scanned{Comment: " x"}}, {strings.Repeat(" ", 15) + "#a:", lexer.Scanned{Comment: "a:"}}, {"##", lexer.Scanned{Comment: "#"}}, {"#\t\n\x00\xff\"", lexer.Scanned{Comment: "\t\n\x00\xff\""}},
		{"a  ", lexer.Scanned{Tokens: []api.Token{in(1, word("a"))}}}, {"a#b", lexer.Scanned{Tokens: []api.Token{in(1, word("a"))}, Comment: "b"}},
	} {
		checkLine(t, c.line, c.want, api.Fault{})
	}
	for steps := range 7 {
		checkLine(t, strings.Repeat("  ", steps)+"a  b", lexer.Scanned{Indent: steps, Tokens: []api.Token{in(2*steps+1, word("a")), in(2*steps+4, word("b"))}}, api.Fault{})
	}
}

func TestP7_1Heading(t *testing.T) {
	for _, c := range []struct {
		line string
		want lexer.Scanned
	}{
		{"5:", lexer.Scanned{Tokens: []api.Token{in(1, number(5000))}, Heading: true}}, {"06:30:", lexer.Scanned{Tokens: []api.Token{in(1, clock(390))}, Heading: true}}, {"a : # b:", lexer.Scanned{Tokens: []api.Token{in(1, word("a"))}, Heading: true, Comment: " b:"}},
		{"::", lexer.Scanned{Tokens: []api.Token{in(1, sign(":"))}, Heading: true}}, {"  a:   ", lexer.Scanned{Indent: 1, Tokens: []api.Token{in(3, word("a"))}, Heading: true}}, {`a ":"`, lexer.Scanned{Tokens: []api.Token{in(1, word("a")), in(3, text(":"))}}}, {"a: b", lexer.Scanned{Tokens: []api.Token{in(1, word("a")), in(2, sign(":")), in(4, word("b"))}}},
	} {
		checkLine(t, c.line, c.want, api.Fault{})
	}
}

func TestP7_1Faults(t *testing.T) {
	tokens := strings.Repeat("a ", 64)
	for _, c := range []struct {
		line string
		want api.Fault
	}{
		{strings.Repeat(" ", 1001), fault(api.ErrTooMany, 1001)}, {"a" + strings.Repeat(" ", 1000), fault(api.ErrTooMany, 1001)}, {" ;" + strings.Repeat("#", 5000), fault(api.ErrTooMany, 1001)},
		{" a", fault(api.ErrSyntax, 2)}, {" :", fault(api.ErrSyntax, 2)}, {" ;", fault(api.ErrSyntax, 2)}, {"   24:00", fault(api.ErrSyntax, 4)}, {" " + strings.Repeat("a", 50), fault(api.ErrSyntax, 2)},
		{strings.Repeat(" ", 13) + "a", fault(api.ErrSyntax, 14)}, {strings.Repeat(" ", 14) + "a", fault(api.ErrTooMany, 15)}, {strings.Repeat(" ", 14) + ";", fault(api.ErrTooMany, 15)}, {strings.Repeat(" ", 14) + "24:00", fault(api.ErrTooMany, 15)}, {strings.Repeat(" ", 15) + "a", fault(api.ErrSyntax, 16)}, {strings.Repeat(" ", 999) + "a", fault(api.ErrSyntax, 1000)}, {strings.Repeat(" ", 998) + ":", fault(api.ErrTooMany, 999)},
		{tokens + "a", fault(api.ErrTooMany, 129)}, {tokens + "a:", fault(api.ErrTooMany, 129)}, {tokens + ":", fault(api.ErrTooMany, 129)}, {tokens + " 24:00", fault(api.ErrTooMany, 130)}, {tokens + strings.Repeat("a", 50), fault(api.ErrTooMany, 129)}, {tokens + ";", fault(api.ErrTooMany, 129)}, {tokens + `"`, fault(api.ErrTooMany, 129)}, {"24:00 " + tokens, fault(api.ErrRange, 1)},
		{strings.Repeat("a", 50), fault(api.ErrTooMany, 1)}, {"b " + strings.Repeat("/", 50), fault(api.ErrSyntax, 3)}, {"a/" + strings.Repeat("_", 48), fault(api.ErrTooMany, 1)}, {strings.Repeat("a", 50) + " ;", fault(api.ErrTooMany, 1)},
		{"07", fault(api.ErrSyntax, 1)}, {"00", fault(api.ErrSyntax, 1)}, {"00.5", fault(api.ErrSyntax, 1)}, {"-07", fault(api.ErrSyntax, 1)}, {"-0", fault(api.ErrSyntax, 1)}, {"-0.0", fault(api.ErrSyntax, 1)}, {"-0.000", fault(api.ErrSyntax, 1)}, {"-", fault(api.ErrSyntax, 1)}, {"--1", fault(api.ErrSyntax, 1)}, {"1-", fault(api.ErrSyntax, 1)}, {"1-2", fault(api.ErrSyntax, 1)}, {"*", fault(api.ErrSyntax, 1)}, {"1.", fault(api.ErrSyntax, 1)}, {"-.5", fault(api.ErrSyntax, 1)}, {".5", fault(api.ErrSyntax, 1)}, {"1.2345", fault(api.ErrSyntax, 1)}, {"1.2.3", fault(api.ErrSyntax, 1)}, {"a +1", fault(api.ErrSyntax, 3)},
		{"007000000000000", fault(api.ErrSyntax, 1)}, {"-099999999999999999999", fault(api.ErrSyntax, 1)}, {strings.Repeat("9", 990) + ".1234", fault(api.ErrSyntax, 1)},
		{"1000000000.001", fault(api.ErrRange, 1)}, {"-1000000000.001", fault(api.ErrRange, 1)}, {"1000000001", fault(api.ErrRange, 1)}, {"x -" + strings.Repeat("9", 900), fault(api.ErrRange, 3)}, {"18446744073709551617", fault(api.ErrRange, 1)}, {"18446744073709552", fault(api.ErrRange, 1)},
		{"24:00", fault(api.ErrRange, 1)}, {"12:60", fault(api.ErrRange, 1)}, {"99:99", fault(api.ErrRange, 1)}, {"7:30", fault(api.ErrSyntax, 1)}, {"07:3", fault(api.ErrSyntax, 1)}, {"007:30", fault(api.ErrSyntax, 1)}, {"07:300", fault(api.ErrSyntax, 1)}, {"07:30:00", fault(api.ErrSyntax, 1)}, {"-07:30", fault(api.ErrSyntax, 1)}, {"07:30.5", fault(api.ErrSyntax, 1)}, {"07:*", fault(api.ErrSyntax, 1)}, {"*:07", fault(api.ErrSyntax, 1)},
		{"2026-13-01", fault(api.ErrRange, 1)}, {"2026-00-01", fault(api.ErrRange, 1)}, {"2026-01-00", fault(api.ErrRange, 1)}, {"2026-01-32", fault(api.ErrRange, 1)}, {"*-99-*", fault(api.ErrRange, 1)}, {"*-*-32", fault(api.ErrRange, 1)}, {"2026-1-01", fault(api.ErrSyntax, 1)}, {"2026-01-1", fault(api.ErrSyntax, 1)}, {"026-01-01", fault(api.ErrSyntax, 1)}, {"02026-01-01", fault(api.ErrSyntax, 1)}, {"2026-01", fault(api.ErrSyntax, 1)}, {"2026-01-01-01", fault(api.ErrSyntax, 1)}, {"2026--01", fault(api.ErrSyntax, 1)}, {"-2026-01-01", fault(api.ErrSyntax, 1)}, {"**-01-01", fault(api.ErrSyntax, 1)}, {"2026-**-01", fault(api.ErrSyntax, 1)}, {"2026-13-1", fault(api.ErrSyntax, 1)}, {"2026-1.-01", fault(api.ErrSyntax, 1)}, {"2026-01-*0", fault(api.ErrSyntax, 1)}, {"2*26-01-01", fault(api.ErrSyntax, 1)},
		{`x ""`, fault(api.ErrName, 3)}, {`" a"`, fault(api.ErrName, 1)}, {`"a "`, fault(api.ErrName, 1)}, {`" "`, fault(api.ErrName, 1)}, {`"` + strings.Repeat("y", 41) + `"`, fault(api.ErrName, 1)}, {`"a`, fault(api.ErrSyntax, 1)}, {`"`, fault(api.ErrSyntax, 1)}, {`"a" "`, fault(api.ErrSyntax, 5)}, {`"a # "b`, fault(api.ErrName, 1)}, {"\"a\tb\"", fault(api.ErrSyntax, 1)}, {"\" \x7f\"", fault(api.ErrSyntax, 1)}, {"\"\x80\"", fault(api.ErrSyntax, 1)}, {"\"\x1f\"", fault(api.ErrSyntax, 1)}, {"\"" + strings.Repeat("y", 41) + "\n\"", fault(api.ErrSyntax, 1)}, {"\"a\" \xff", fault(api.ErrSyntax, 5)},
		{"a ;", fault(api.ErrSyntax, 3)}, {"a;", fault(api.ErrSyntax, 2)}, {"a\n", fault(api.ErrSyntax, 2)}, {"a\t", fault(api.ErrSyntax, 2)}, {"_a", fault(api.ErrSyntax, 1)}, {"/a", fault(api.ErrSyntax, 1)}, {"é", fault(api.ErrSyntax, 1)},
		{":", fault(api.ErrSyntax, 1)}, {"  :", fault(api.ErrSyntax, 3)}, {": # a", fault(api.ErrSyntax, 1)}, {"    :  ", fault(api.ErrSyntax, 5)},
		{"24:00 07", fault(api.ErrRange, 1)}, {"07 24:00", fault(api.ErrSyntax, 1)}, {`"" ;`, fault(api.ErrName, 1)}, {": ;", fault(api.ErrSyntax, 3)},
	} {
		checkLine(t, c.line, lexer.Scanned{}, c.want)
	}
}

func TestP7_1Bytes(t *testing.T) {
	for c := range 256 {
		for _, form := range [][2]string{{"", ""}, {"a", ""}, {"a ", " b"}, {"1", "1"}, {"\"a", "a\""}, {"# ", ""}, {"01", "01"}, {"-", ""}} {
			line := form[0] + string([]byte{byte(c)}) + form[1]
			if strings.Contains(line, "\x01") {
				continue
			}
			want, wanted := define(line)
			checkLine(t, line, want, wanted)
		}
	}
	checkLine(t, "a \x01", lexer.Scanned{}, fault(api.ErrSyntax, 3))
}

func TestP7_1Limits(t *testing.T) {
	tokens := strings.Repeat("a ", 64)
	got, f := lexer.Scan(tokens + "# more a a a")
	if f != (api.Fault{}) || len(got.Tokens) != 64 || got.Comment != " more a a a" {
		t.Errorf("a line with 64 tokens: %d tokens, %v", len(got.Tokens), f)
	}
	got, f = lexer.Scan(strings.Repeat("a ", 63) + ":")
	if f != (api.Fault{}) || len(got.Tokens) != 63 || !got.Heading {
		t.Errorf("a heading with 63 tokens: %d tokens, %v", len(got.Tokens), f)
	}
	line := "a" + strings.Repeat(" ", 998) + "b"
	checkLine(t, line, lexer.Scanned{Tokens: []api.Token{in(1, word("a")), in(1000, word("b"))}}, api.Fault{})
}

func TestP7_1ShortLines(t *testing.T) {
	const alphabet = "a/ 019:-*.\"#(\t"
	var try func(line string)
	try = func(line string) {
		want, wanted := define(line)
		checkLine(t, line, want, wanted)
		if len(line) < 4 {
			for _, c := range alphabet {
				try(line + string(c))
			}
		}
	}
	try("")
}

func TestP7_1RandomLines(t *testing.T) {
	source := rand.New(rand.NewSource(7))
	parts := []string{" ", " ", "  ", "a", "fan_1", "ahu/fan", "Z", "0", "1", "12", "2026", "-", "-", "*", "*-", "-*", ".", ":", ":", "06:30", "23", "59", "-12", "-31", "\"", "\"Main hall\"", "(", ")", ",", "=", "<", ">", "#", ";", "1000000000", ".001", "\t", strings.Repeat("b", 25)}
	for range 100000 {
		line := strings.Repeat(" ", source.Intn(3)*source.Intn(8))
		for range source.Intn(12) {
			// What is a fault stands in few lines.
			part := parts[source.Intn(len(parts))]
			if strings.Contains(part, "#") || strings.Contains(part, ";") || strings.Contains(part, "\t") {
				part = parts[source.Intn(len(parts))]
			}
			line += part
			if source.Intn(2) == 0 {
				line += " "
			}
		}
		want, wanted := define(line)
		checkLine(t, line, want, wanted)
	}
}

func TestP7_3Lines(t *testing.T) {
	for _, c := range []struct {
		source string
		want   []string
	}{
		{"", nil}, {"\n", []string{""}}, {"\n\n", []string{"", ""}}, {"a", []string{"a"}}, {"a\n", []string{"a"}}, {"a\nb", []string{"a", "b"}}, {"a\n\nb\n", []string{"a", "", "b"}}, {"a\n\n", []string{"a", ""}}, {"\na", []string{"", "a"}}, {" \n ", []string{" ", " "}}, {"a\r\nb\r", []string{"a\r", "b\r"}}, {"\xff\x00\n#:", []string{"\xff\x00", "#:"}},
		{strings.Repeat("x", api.MaxSource), []string{strings.Repeat("x", api.MaxSource)}}, {strings.Repeat("\n", api.MaxSource), make([]string, api.MaxSource)},
	} {
		got, e := lexer.Lines(c.source)
		if e != api.OK || len(got) != len(c.want) || len(got) > 0 && !reflect.DeepEqual(got, c.want) {
			t.Errorf("Lines(%.20q): %.100q, %d", c.source, got, e)
		}
	}
	for _, source := range []string{strings.Repeat("x", api.MaxSource+1), strings.Repeat("\n", api.MaxSource+1), strings.Repeat("a\n", api.MaxSource)} {
		if got, e := lexer.Lines(source); e != api.ErrTooMany || len(got) != 0 {
			t.Errorf("Lines of %d bytes: %d lines, %d", len(source), len(got), e)
		}
	}
}
