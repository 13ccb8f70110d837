package units

import (
	"cmp"
	"strconv"
	"strings"

	"plenum/api"
)

// maxText is the greatest number of bytes of a text.
const maxText = 40

// factor is a factor of a text. Its power is from 1 to 9; below tells that it stands behind the /.
type factor struct {
	name  string
	unit  Unit // of the name, once it is known
	power int
	below bool
}

// Parse returns the unit of a text.
func Parse(s string) (Unit, api.Errno) {
	scale, factors, ok := readText(s)
	if !ok {
		return Unit{}, api.ErrSyntax
	}
	// A name that stands alone is the only text whose unit may have an offset.
	if u, known := unitOf(s); known {
		return u, api.OK
	}
	if e := findUnits(factors); e != api.OK {
		return Unit{}, e
	}
	return multiply(scale, factors)
}

// findUnits sets the units of the factors of a text that is not a mere name.
func findUnits(factors []factor) api.Errno {
	for i, f := range factors {
		unit, known := unitOf(f.name)
		if !known {
			return api.ErrUnknown
		}
		factors[i].unit = unit
	}
	for _, f := range factors {
		if f.unit.Offset != 0 {
			return api.ErrType
		}
	}
	return api.OK
}

// multiply returns the product of a unit and the powers of all factors.
func multiply(u Unit, factors []factor) (Unit, api.Errno) {
	for _, f := range factors {
		step := Mul
		if f.below {
			step = Div
		}
		// Within the powers of one factor the numbers only go from their first to their last values, so that none is out of range unless the last one is.
		for range f.power {
			next, e := step(u, f.unit)
			if e != api.OK {
				return Unit{}, e
			}
			u = next
		}
	}
	return u, api.OK
}

// readText returns the scale of a text, as a unit, and its factors, and whether it has the form of a text.
func readText(s string) (scale Unit, factors []factor, ok bool) {
	if len(s) > maxText {
		return Unit{}, nil, false
	}
	scale, rest, ok := cutScale(s)
	if !ok {
		return Unit{}, nil, false
	}
	above, below, divided := strings.Cut(rest, "/")
	factors, ok = readFactors(nil, above, false)
	if ok && divided {
		factors, ok = readFactors(factors, below, true)
	}
	return scale, factors, ok
}

// cutScale returns the scale that a text begins with, 1 if there is none, and what follows.
func cutScale(s string) (scale Unit, rest string, ok bool) {
	text, rest, found := strings.Cut(s, "*")
	if !found {
		return None(), s, true
	}
	above, below, divided := strings.Cut(text, "/")
	if !divided {
		below = "1"
	}
	num, den := readNumber(above), readNumber(below)
	if num == 0 || den == 0 {
		return Unit{}, "", false
	}
	common := divisor(num, den)
	return Unit{Num: num / common, Den: den / common}, rest, true
}

// readNumber returns a number of a scale, or 0 if s is none.
func readNumber(s string) int64 {
	n, err := strconv.ParseInt(s, 10, 64)
	if err != nil || !inScale(n) || strconv.FormatInt(n, 10) != s {
		return 0
	}
	return n
}

// readFactors appends the factors of a part of a text to a list.
func readFactors(list []factor, text string, below bool) ([]factor, bool) {
	for _, part := range strings.Split(text, ".") {
		f := factor{name: part, power: 1, below: below}
		if last := len(part) - 1; last >= 0 && part[last] >= '2' && part[last] <= '9' {
			f.name, f.power = part[:last], int(part[last]-'0')
		}
		if !isLetters(f.name) {
			return nil, false
		}
		list = append(list, f)
	}
	return list, true
}

// isLetters reports whether s consists of one or more letters.
func isLetters(s string) bool {
	for i := range len(s) {
		if (s[i] < 'A' || s[i] > 'Z') && (s[i] < 'a' || s[i] > 'z') {
			return false
		}
	}
	return s != ""
}

// Print returns the canonical text of a unit.
func Print(u Unit) (string, api.Errno) {
	if !Valid(u) {
		return "", api.ErrInvalid
	}
	if name := nameOf(u); name != "" {
		return name, api.OK
	}
	text := scaleText(u) + cmp.Or(powers(u, 1), "one")
	if below := powers(u, -1); below != "" {
		text += "/" + below
	}
	return text, api.OK
}

// scaleText returns how the text of a unit begins.
func scaleText(u Unit) string {
	text := strconv.FormatInt(u.Num, 10)
	if u.Den != 1 {
		text += "/" + strconv.FormatInt(u.Den, 10)
	}
	if text == "1" {
		return ""
	}
	return text + "*"
}

// powers returns the base units whose exponents have a sign, 1 or -1, as factors.
func powers(u Unit, sign int) string {
	var factors []string
	for i, name := range [4]string{"m", "g", "s", "K"} {
		switch n := sign * u.Exp[i]; {
		case n == 1:
			factors = append(factors, name)
		case n > 1:
			factors = append(factors, name+strconv.Itoa(n))
		}
	}
	return strings.Join(factors, ".")
}
