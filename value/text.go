package value

import (
	"slices"
	"strings"

	"plenum/api"
	"plenum/lexer"
)

// nullText is the text of Null, whatever the point is.
const nullText = "null"

// switchTexts returns the texts of binary values, from 0 on.
func switchTexts() [2]string { return [2]string{"off", "on"} }

// Text returns the text of a value of a point.
func Text(p api.Point, v api.Value) (string, api.Errno) {
	if e := check(p, v); e != api.OK {
		return "", e
	}
	switch v.Kind {
	case api.Analog:
		return lexer.Spell(api.Token{Kind: api.TokNumber, N: v.N})
	case api.Binary:
		return switchTexts()[v.N], api.OK
	case api.Multi:
		return p.States[v.N-1], api.OK
	}
	return nullText, api.OK
}

// Parse returns the value of a point that a text describes.
func Parse(p api.Point, s string) (api.Value, api.Errno) {
	if s == nullText {
		return api.Value{}, api.OK
	}
	n, e := int64(0), api.ErrType
	switch p.Kind {
	case api.Analog:
		n, e = parseNumber(s)
	case api.Binary:
		n, e = parseSwitch(s)
	case api.Multi:
		n, e = parseState(p.States, s)
	}
	if e != api.OK {
		return api.Value{}, e
	}
	return api.Value{Kind: p.Kind, N: n}, api.OK
}

// parseNumber returns the analog value that a text describes.
func parseNumber(s string) (int64, api.Errno) {
	if len(s) > api.MaxLabel || !isNumeral(s) {
		return 0, api.ErrSyntax
	}
	line, fault := lexer.Scan(s)
	if fault.Code != api.OK {
		return 0, fault.Code
	}
	return line.Tokens[0].N, api.OK
}

// isNumeral reports whether a text consists of bytes that can be those of a number, and is not empty: the lexer then finds one number in it, or a fault, but neither a date, nor blanks or a comment beside a number.
func isNumeral(s string) bool {
	isOther := func(r rune) bool { return r != '.' && (r < '0' || r > '9') }
	digits := strings.TrimPrefix(s, "-")
	return digits != "" && !strings.ContainsFunc(digits, isOther)
}

// parseSwitch returns the binary value that a text describes.
func parseSwitch(s string) (int64, api.Errno) {
	for i, text := range switchTexts() {
		if text == s {
			return int64(i), api.OK
		}
	}
	return 0, api.ErrSyntax
}

// parseState returns the state with a name. States that no value can have do not count.
func parseState(states []string, name string) (int64, api.Errno) {
	i := slices.Index(states[:min(len(states), api.MaxStates)], name)
	if i < 0 {
		return 0, api.ErrUnknown
	}
	return int64(i) + 1, api.OK
}
