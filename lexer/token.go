package lexer

import (
	"strings"

	"plenum/api"
	"plenum/civil"
	"plenum/fixed"
)

// signs are the bytes that are tokens by themselves.
const signs = "(),=:<>"

// open is the part of a date that stands for any year, month or day.
const open = "*"

// readToken returns the token at the begin of a text that is not empty, without its column, and how many bytes it has.
func readToken(s string) (api.Token, int, api.Errno) {
	first := s[0]
	switch {
	case isLetter(first):
		return readWord(s)
	case isDigit(first) || first == '-' || first == '*':
		return readRun(s)
	case first == '"':
		return readText(s)
	case strings.IndexByte(signs, first) >= 0:
		return api.Token{Kind: api.TokSign, Text: s[:1]}, 1, api.OK
	}
	return api.Token{}, 0, api.ErrSyntax
}

// readWord is readToken for a text that begins with a letter.
func readWord(s string) (api.Token, int, api.Errno) {
	length := runEnd(s, 1, func(at int) bool {
		return isLetter(s[at]) || isDigit(s[at]) || s[at] == '_' || s[at] == '/'
	})
	if length > MaxWord {
		return api.Token{}, 0, api.ErrTooMany
	}
	return api.Token{Kind: api.TokWord, Text: s[:length]}, length, api.OK
}

// readText is readToken for a text that begins with a quotation mark.
func readText(s string) (api.Token, int, api.Errno) {
	label, _, closed := strings.Cut(s[1:], `"`)
	if !closed || !isPrintable(label) {
		return api.Token{}, 0, api.ErrSyntax
	}
	if !Label(label) {
		return api.Token{}, 0, api.ErrName
	}
	return api.Token{Kind: api.TokText, Text: label}, len(label) + 2, api.OK
}

// readRun is readToken for a text that begins with a time, a date or a number.
func readRun(s string) (api.Token, int, api.Errno) {
	length := runEnd(s, 1, func(at int) bool {
		if s[at] == ':' {
			return isDigit(s[at-1]) && at+1 < len(s) && isDigit(s[at+1])
		}
		return isDigit(s[at]) || s[at] == '-' || s[at] == '*' || s[at] == '.'
	})
	run := s[:length]
	// No run has the form of two of them.
	t, e := timeOf(run)
	if e == api.ErrSyntax {
		t, e = dateOf(run)
	}
	if e == api.ErrSyntax {
		t, e = numberOf(run)
	}
	return t, length, e
}

// timeOf returns the time that a run is.
func timeOf(run string) (api.Token, api.Errno) {
	minute, e := civil.ParseClock(run)
	if e != api.OK {
		return api.Token{}, e
	}
	return api.Token{Kind: api.TokTime, N: int64(minute)}, api.OK
}

// dateOf returns the date that a run is.
func dateOf(run string) (api.Token, api.Errno) {
	parts := strings.Split(run, "-")
	if len(parts) != 3 || !isDatePart(parts[0], 4) || !isDatePart(parts[1], 2) || !isDatePart(parts[2], 2) {
		return api.Token{}, api.ErrSyntax
	}
	if !isUpTo(parts[1], "12") || !isUpTo(parts[2], "31") {
		return api.Token{}, api.ErrRange
	}
	return api.Token{Kind: api.TokDate, Text: run}, api.OK
}

// isDatePart reports whether a part of a date has so many digits, or is left open.
func isDatePart(part string, digits int) bool {
	return part == open || len(part) == digits && runEnd(part, 0, func(at int) bool { return isDigit(part[at]) }) == digits
}

// isUpTo reports whether a part with two digits lies between 01 and the greatest one, or is left open.
func isUpTo(part, most string) bool { return part == open || "01" <= part && part <= most }

// numberOf returns the number that a run is.
func numberOf(run string) (api.Token, api.Errno) {
	digits, negative := strings.CutPrefix(run, "-")
	n, e := fixed.Parse(run)
	if isPadded(digits) || negative && n == 0 && e == api.OK {
		return api.Token{}, api.ErrSyntax
	}
	if e != api.OK {
		return api.Token{}, e
	}
	return api.Token{Kind: api.TokNumber, N: n}, api.OK
}

// isPadded reports whether digits begin with a 0 that is not alone in front of the point.
func isPadded(digits string) bool {
	whole, _, _ := strings.Cut(digits, ".")
	return len(whole) > 1 && whole[0] == '0'
}

// Valid reports whether a token can stand in a line.
func Valid(t api.Token) bool {
	_, e := Spell(t)
	return e == api.OK
}

// Spell returns the spelling of a token.
func Spell(t api.Token) (string, api.Errno) {
	s := spelling(t)
	if s == "" {
		return "", api.ErrInvalid
	}
	// A token is possible if it is what its spelling is read as. Its column has no influence.
	t.At = 0
	read, length, e := readToken(s)
	if e != api.OK || length != len(s) || read != t {
		return "", api.ErrInvalid
	}
	return s, api.OK
}

// spelling returns how a token would be spelled. If the token is not possible, it is perhaps the spelling of another one, or empty.
func spelling(t api.Token) string {
	switch t.Kind {
	case api.TokWord, api.TokDate, api.TokSign:
		return t.Text
	case api.TokText:
		return `"` + t.Text + `"`
	case api.TokNumber:
		return fixed.Text(t.N)
	case api.TokTime:
		s, _ := civil.Clock(int(t.N))
		return s
	}
	return ""
}
