package lexer

import (
	"strings"

	"plenum/api"
)

// isLower reports whether a byte is a lower-case letter.
func isLower(c byte) bool { return 'a' <= c && c <= 'z' }

// isLetter reports whether a byte is a letter.
func isLetter(c byte) bool { return isLower(c) || 'A' <= c && c <= 'Z' }

// isDigit reports whether a byte is a decimal digit.
func isDigit(c byte) bool { return '0' <= c && c <= '9' }

// isPrintable reports whether all bytes of s may stand in a text.
func isPrintable(s string) bool {
	return runEnd(s, 0, func(at int) bool { return ' ' <= s[at] && s[at] <= '~' }) == len(s)
}

// Name reports whether s is a name.
func Name(s string) bool {
	if s == "" || len(s) > api.MaxName || !isLower(s[0]) {
		return false
	}
	return runEnd(s, 1, func(at int) bool { return isLower(s[at]) || isDigit(s[at]) || s[at] == '_' }) == len(s)
}

// Path reports whether s is a path: two names with / between them.
func Path(s string) bool {
	_, _, e := Split(s)
	return e == api.OK
}

// Split returns the device and the point of a path.
func Split(path string) (string, string, api.Errno) {
	device, point, _ := strings.Cut(path, "/")
	if !Name(device) || !Name(point) {
		return "", "", api.ErrName
	}
	return device, point, api.OK
}

// Label reports whether s is a label.
func Label(s string) bool {
	if s == "" || len(s) > api.MaxLabel || s[0] == ' ' || s[len(s)-1] == ' ' {
		return false
	}
	return isPrintable(s) && !strings.Contains(s, `"`)
}
