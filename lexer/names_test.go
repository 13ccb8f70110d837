package lexer_test

import (
	"regexp"
	"strings"
	"testing"

	"plenum/api"
	"plenum/lexer"
)

// matches reports whether a string has the form of a regular expression.
func matches(form, s string) bool { return regexp.MustCompile(form).MatchString(s) }

// The definitions of names, paths and labels. $ stands for the end of a line as well, so what follows the form is named \z.
const (
	nameForm = `[a-z][a-z0-9_]{0,23}`
	isName   = `\A` + nameForm + `\z`
	isPath   = `\A` + nameForm + `/` + nameForm + `\z`
	isLabel  = `\A[!#-~]([ !#-~]{0,38}[!#-~])?\z`
)

// checkNames compares what is said of a string with the definitions.
func checkNames(t *testing.T, s string) {
	t.Helper()
	if got, want := lexer.Name(s), matches(isName, s); got != want {
		t.Errorf("Name(%.60q): %t", s, got)
	}
	if got, want := lexer.Label(s), matches(isLabel, s); got != want {
		t.Errorf("Label(%.60q): %t", s, got)
	}
	path := matches(isPath, s)
	if got := lexer.Path(s); got != path {
		t.Errorf("Path(%.60q): %t", s, got)
	}
	device, point, e := lexer.Split(s)
	switch {
	case path && (e != api.OK || device+"/"+point != s || !matches(isName, device) || !matches(isName, point)):
		t.Errorf("Split(%.60q): %q, %q, %d", s, device, point, e)
	case !path && (e != api.ErrName || device != "" || point != ""):
		t.Errorf("Split(%.60q): %q, %q, %d", s, device, point, e)
	}
}

func TestP7_4Names(t *testing.T) {
	for _, c := range []struct {
		s                 string
		name, path, label bool
	}{
		{"", false, false, false}, {"a", true, false, true}, {"fan_1", true, false, true}, {"f__", true, false, true}, {"1a", false, false, true}, {"_a", false, false, true}, {"Fan", false, false, true}, {"fAn", false, false, true}, {"fan 1", false, false, true}, {"fan-1", false, false, true}, {"f\x00", false, false, false}, {"fané", false, false, false},
		{strings.Repeat("a", 24), true, false, true}, {strings.Repeat("a", 25), false, false, true}, {strings.Repeat("a", 40), false, false, true}, {strings.Repeat("a", 41), false, false, false},
		{"ahu/fan", false, true, true}, {"a/b", false, true, true}, {"/", false, false, true}, {"a/", false, false, true}, {"/a", false, false, true}, {"a//b", false, false, true}, {"a/b/c", false, false, true}, {"a/B", false, false, true}, {"A/b", false, false, true}, {"a/1", false, false, true}, {"a /b", false, false, true}, {"a/b ", false, false, false},
		{strings.Repeat("a", 24) + "/" + strings.Repeat("b", 24), false, true, false}, {strings.Repeat("a", 25) + "/b", false, false, true}, {"a/" + strings.Repeat("b", 25), false, false, true}, {strings.Repeat("a/", 1<<20), false, false, false},
		{" ", false, false, false}, {" a", false, false, false}, {"a ", false, false, false}, {"a  b", false, false, true}, {"~", false, false, true}, {"!", false, false, true}, {"a\"b", false, false, false}, {"\"", false, false, false}, {"a\nb", false, false, false}, {"a\n", false, false, false}, {"\x7f", false, false, false}, {"# (x): 5", false, false, true}, {"x" + strings.Repeat(" ", 38) + "y", false, false, true}, {"x" + strings.Repeat(" ", 39) + "y", false, false, false},
	} {
		if lexer.Name(c.s) != c.name || lexer.Path(c.s) != c.path || lexer.Label(c.s) != c.label {
			t.Errorf("%.60q: %t, %t, %t", c.s, lexer.Name(c.s), lexer.Path(c.s), lexer.Label(c.s))
		}
		checkNames(t, c.s)
	}
}

func TestP7_4Bytes(t *testing.T) {
	for c := range 256 {
		s := string([]byte{byte(c)})
		for _, form := range [][2]string{{"", ""}, {"", "a"}, {"a", ""}, {"a", "a"}, {"a/", ""}, {"", "/a"}, {"a/b", "c"}, {"a", "/b"}} {
			checkNames(t, form[0]+s+form[1])
		}
	}
}

func TestP7_4Lengths(t *testing.T) {
	for n := range 60 {
		s := strings.Repeat("a", n)
		for _, s := range []string{s, s + "/b", "b/" + s, s + " ", s + "_", s + "é", s + "/" + s} {
			checkNames(t, s)
		}
	}
	checkNames(t, strings.Repeat("a", 1<<22))
}

func TestP7_4Split(t *testing.T) {
	if device, point, e := lexer.Split("ahu/fan"); device != "ahu" || point != "fan" || e != api.OK {
		t.Errorf("ahu/fan: %q, %q, %d", device, point, e)
	}
}
