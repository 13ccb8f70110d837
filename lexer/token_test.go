package lexer_test

import (
	"fmt"
	"math"
	"math/rand"
	"reflect"
	"strings"
	"testing"

	"plenum/api"
	"plenum/lexer"
)

// checkSpelling compares the spelling of a token with what it should be, in several columns.
func checkSpelling(t *testing.T, token api.Token, want string) {
	t.Helper()
	for _, col := range []int{0, 1, 3, 1000, 1001, -1, math.MinInt, math.MaxInt} {
		token.At = col
		if got, e := lexer.Spell(token); got != want || e != api.OK || !lexer.Valid(token) {
			t.Errorf("%v: %q, %d, %t, not %q", token, got, e, lexer.Valid(token), want)
		}
	}
}

// checkImpossible checks that a token is not possible.
func checkImpossible(t *testing.T, token api.Token) {
	t.Helper()
	if got, e := lexer.Spell(token); got != "" || e != api.ErrInvalid || lexer.Valid(token) {
		t.Errorf("%.200v: %.40q, %d, %t", token, got, e, lexer.Valid(token))
	}
}

func TestP7_2Spell(t *testing.T) {
	for want, token := range map[string]api.Token{
		"a": word("a"), "degC": word("degC"), "a/b_1/": word("a/b_1/"), strings.Repeat("Z", 49): word(strings.Repeat("Z", 49)),
		"0": number(0), "21.5": number(21500), "-0.001": number(-1), "0.001": number(1), "0.01": number(10), "-0.1": number(-100), "1": number(1000), "10": number(10000), "1.234": number(1234), "-12.03": number(-12030), "1000000000": number(api.MaxAnalog), "-1000000000": number(-api.MaxAnalog), "999999999.999": number(api.MaxAnalog - 1),
		`"a b"`: text("a b"), `"#"`: text("#"), `":"`: text(":"), `"~!'"`: text("~!'"), `"` + strings.Repeat("y", 40) + `"`: text(strings.Repeat("y", 40)),
		"00:00": clock(0), "06:05": clock(365), "10:00": clock(600), "23:59": clock(1439),
		"*-02-29": date("*-02-29"), "*-*-*": date("*-*-*"), "2026-11-18": date("2026-11-18"), "0000-12-31": date("0000-12-31"), "1999-02-31": date("1999-02-31"),
		"(": sign("("), ")": sign(")"), ",": sign(","), "=": sign("="), ":": sign(":"), "<": sign("<"), ">": sign(">"),
	} {
		checkSpelling(t, token, want)
	}
	for minute := range int64(1440) {
		checkSpelling(t, clock(minute), fmt.Sprintf("%02d:%02d", minute/60, minute%60))
	}
}

func TestP7_2Impossible(t *testing.T) {
	for _, token := range []api.Token{
		{}, {At: 1}, {Kind: 7, Text: "a"}, {Kind: -1, Text: "a"}, {Kind: math.MinInt, Text: "a"}, {Kind: math.MaxInt, Text: "a"}, {Text: "a"},
		word(""), word("1a"), word("_a"), word("/"), word("a b"), word(" a"), word("a "), word("a-"), word("a:"), word("a#"), word("é"), word("a\xff"), word("5"), word("("), word(strings.Repeat("a", 50)), word(strings.Repeat("a", 1<<20)), word(`"a"`), {Kind: api.TokWord, Text: "a", N: 1}, {Kind: api.TokWord, Text: "a", N: -1},
		number(api.MaxAnalog + 1), number(-api.MaxAnalog - 1), number(math.MinInt64), number(math.MaxInt64), {Kind: api.TokNumber, Text: "1", N: 1000}, {Kind: api.TokNumber, Text: "0"},
		text(""), text(" a"), text("a "), text(" "), text(`a"b`), text(`"`), text("a\tb"), text("a\n"), text("\x7f"), text("é"), text(strings.Repeat("y", 41)), text(strings.Repeat(`"`, 1<<20)), text(`a" "b`), {Kind: api.TokText, Text: "a", N: 1},
		clock(-1), clock(1440), clock(math.MinInt64), clock(math.MaxInt64), clock(1 << 32), clock(1<<32 + 5), {Kind: api.TokTime, Text: "00:01", N: 1}, {Kind: api.TokTime, Text: "06:05"},
		date(""), date("2026-1-1"), date("2026-13-01"), date("2026-00-01"), date("2026-01-32"), date("2026-01-00"), date("5"), date("06:30"), date("*"), date("*-*"), date("a"), date(" *-*-*"), date("*-*-* "), date("*-*-*#"), date("*-*-*-"), date("2026-01-01 2026-01-01"), date(strings.Repeat("-", 1<<20)), {Kind: api.TokDate, Text: "*-*-*", N: 1},
		sign(""), sign(";"), sign("#"), sign("::"), sign("()"), sign(" "), sign(`"`), sign("a"), sign("-"), sign("*"), sign("\n"), sign("\xff"), {Kind: api.TokSign, Text: "(", N: 1}, {Kind: api.TokSign, N: '('},
	} {
		checkImpossible(t, token)
	}
}

// possible is the definition of Valid.
func possible(t api.Token) bool {
	form := ""
	switch t.Kind {
	case api.TokWord:
		form = `\A[A-Za-z][A-Za-z0-9_/]{0,48}\z`
	case api.TokText:
		form = isLabel
	case api.TokDate:
		form = `\A([0-9]{4}|\*)-(0[1-9]|1[0-2]|\*)-(0[1-9]|[12][0-9]|3[01]|\*)\z`
	case api.TokSign:
		form = `\A[(),=:<>]\z`
	case api.TokNumber:
		return t.Text == "" && -api.MaxAnalog <= t.N && t.N <= api.MaxAnalog
	case api.TokTime:
		return t.Text == "" && 0 <= t.N && t.N < api.DayMinutes
	default:
		return false
	}
	return matches(form, t.Text) && t.N == 0
}

// checkValid compares Valid and Spell with the definition of Valid.
func checkValid(t *testing.T, token api.Token) {
	t.Helper()
	s, e := lexer.Spell(token)
	want := possible(token)
	if lexer.Valid(token) != want || (e == api.OK) != want || (s != "") != want {
		t.Errorf("%.200v: %t, %q, %d", token, lexer.Valid(token), s, e)
	}
}

func TestP7_2Definition(t *testing.T) {
	texts := []string{"", "a", "fan_1", "ahu/fan", "Main hall", "a ", " a", "5", "-0.5", "05", "06:30", "24:00", "*-12-25", "2026-01-31", "2026-13-01", "2026-12-32", "2026-00-10", "2026-10-00", "2026-10-20", "2026-1-1", "*-*-*", "**-*-*", "(", ")", ",", "=", ":", "<", ">", ";", "#", `"a"`, `"`, "a b", "a\n", strings.Repeat("a", 40), strings.Repeat("a", 41), strings.Repeat("a", 49), strings.Repeat("a", 50)}
	for kind := -1; kind < 8; kind++ {
		for _, s := range texts {
			for _, n := range []int64{0, 1, -1, 1439, 1440, 1000, 1 << 32, api.MaxAnalog, api.MaxAnalog + 1, -api.MaxAnalog, -api.MaxAnalog - 1, math.MaxInt64, math.MinInt64} {
				checkValid(t, api.Token{Kind: kind, Text: s, N: n})
			}
		}
	}
}

func TestP7_2Bytes(t *testing.T) {
	for c := range 256 {
		for kind := range 8 {
			for _, form := range [][2]string{{"", ""}, {"a", ""}, {"a", "b"}, {"2026-0", "-01"}, {"*-01-0", ""}, {"", "-*-*"}, {"*", "*-*"}, {"202", "-*-*"}} {
				checkValid(t, api.Token{Kind: kind, Text: form[0] + string([]byte{byte(c)}) + form[1]})
			}
		}
	}
}

// randomToken returns a possible token.
func randomToken(source *rand.Rand) api.Token {
	pick := func(bytes string, length int) string {
		s := ""
		for range length {
			s += string(bytes[source.Intn(len(bytes))])
		}
		return s
	}
	part := func(digits, most int) string {
		if source.Intn(3) == 0 {
			return "*"
		}
		return fmt.Sprintf("%0*d", digits, 1+source.Intn(most))
	}
	const letters = "abcxyzABCXYZ"
	switch 1 + source.Intn(6) {
	case api.TokWord:
		return word(pick(letters, 1) + pick(letters+"0189_/", source.Intn(12)))
	case api.TokNumber:
		return number(source.Int63n(int64(math.Pow10(1+source.Intn(12)))) - source.Int63n(int64(math.Pow10(1+source.Intn(12)))))
	case api.TokText:
		return text(pick(letters+"#:", 1) + pick(letters+" #:()-", source.Intn(12)) + pick(letters+"-*", 1))
	case api.TokTime:
		return clock(source.Int63n(1440))
	case api.TokDate:
		return date(part(4, 9999) + "-" + part(2, 12) + "-" + part(2, 31))
	}
	return sign(pick("(),=:<>", 1))
}

func TestP7_5Spellings(t *testing.T) {
	source := rand.New(rand.NewSource(75))
	for range 20000 {
		token := randomToken(source)
		s, e := lexer.Spell(token)
		if e != api.OK {
			t.Fatalf("%v: %d", token, e)
		}
		if token == sign(":") {
			continue
		}
		checkLine(t, s, lexer.Scanned{Tokens: []api.Token{in(1, token)}}, api.Fault{})
	}
}

func TestP7_5Lines(t *testing.T) {
	source := rand.New(rand.NewSource(76))
	for range 20000 {
		var tokens []api.Token
		line := ""
		for range source.Intn(20) {
			token := randomToken(source)
			s, _ := lexer.Spell(token)
			if len(tokens) > 0 {
				line += strings.Repeat(" ", 1+source.Intn(3))
			}
			tokens = append(tokens, in(len(line)+1, token))
			line += s
		}
		if n := len(tokens); n > 0 && tokens[n-1].Text == ":" && tokens[n-1].Kind == api.TokSign {
			continue
		}
		checkLine(t, line, lexer.Scanned{Tokens: tokens}, api.Fault{})
		checkLine(t, line+"   ", lexer.Scanned{Tokens: tokens}, api.Fault{})
		checkLine(t, line+"# a : \"", lexer.Scanned{Tokens: tokens, Comment: " a : \""}, api.Fault{})
		if len(tokens) > 0 {
			checkLine(t, line+" : #", lexer.Scanned{Tokens: tokens, Heading: true}, api.Fault{})
		}
	}
}

func TestP7_5Blanks(t *testing.T) {
	// Blanks and a comment behind the last token change nothing, whether the line has a fault or not.
	for _, line := range []string{"a", "a:", "  a b :", " a", "a 07", "a \"b", ":", "24:00", "a ;", "1:2", "5:"} {
		want, wanted := lexer.Scan(line)
		for _, more := range []string{" ", "    ", strings.Repeat(" ", 1000-len(line))} {
			checkLine(t, line+more, want, wanted)
		}
		got, f := lexer.Scan(line + "# : x")
		if f == (api.Fault{}) && got.Comment != " : x" {
			t.Errorf("%q: the comment %q", line, got.Comment)
		}
		got.Comment = ""
		if f != wanted || !reflect.DeepEqual(got, want) {
			t.Errorf("%q with a comment: %v, %v", line, got, f)
		}
	}
}
