package units_test

import (
	"math/rand"
	"regexp"
	"slices"
	"strconv"
	"strings"
	"testing"

	"plenum/api"
	"plenum/units"
)

// known is the table of the chapter.
var known = []struct {
	name string
	unit units.Unit
}{
	{"one", scaled(1, 1)}, {"pct", scaled(1, 100)}, {"ppm", scaled(1, 1000000)},
	{"m", scaled(1, 1, 1)}, {"mm", scaled(1, 1000, 1)}, {"km", scaled(1000, 1, 1)}, {"g", scaled(1, 1, 0, 1)}, {"kg", scaled(1000, 1, 0, 1)},
	{"s", scaled(1, 1, 0, 0, 1)}, {"min", scaled(60, 1, 0, 0, 1)}, {"h", scaled(3600, 1, 0, 0, 1)}, {"d", scaled(86400, 1, 0, 0, 1)},
	{"K", scaled(1, 1, 0, 0, 0, 1)}, {"degC", shifted(1, 1, 273150)}, {"l", scaled(1, 1000, 3)},
	{"Pa", scaled(1000, 1, -1, 1, -2)}, {"kPa", scaled(1000000, 1, -1, 1, -2)}, {"bar", scaled(100000000, 1, -1, 1, -2)},
	{"J", scaled(1000, 1, 2, 1, -2)}, {"kJ", scaled(1000000, 1, 2, 1, -2)}, {"MJ", scaled(1000000000, 1, 2, 1, -2)}, {"kWh", scaled(3600000000, 1, 2, 1, -2)},
	{"W", scaled(1000, 1, 2, 1, -3)}, {"kW", scaled(1000000, 1, 2, 1, -3)}, {"MW", scaled(1000000000, 1, 2, 1, -3)},
	{"N", scaled(1000, 1, 1, 1, -2)}, {"Hz", scaled(1, 1, 0, 0, -1)}, {"rpm", scaled(1, 60, 0, 0, -1)},
}

func TestP4_1Names(t *testing.T) {
	var want []string
	for _, row := range known {
		want = append(want, row.name)
		if u, e := units.Parse(row.name); u != row.unit || e != api.OK {
			t.Errorf("Parse of %s: %v, %d", row.name, u, e)
		}
	}
	slices.Sort(want)
	names := units.Names()
	if !slices.Equal(names, want) {
		t.Errorf("Names: %v", names)
	}
	names[0] = "changed"
	if !slices.Equal(units.Names(), want) {
		t.Error("Names returns what it keeps")
	}
}

func TestP4_1Parse(t *testing.T) {
	const most = units.MaxScale
	for s, want := range map[string]units.Unit{
		"kJ/kg.K": scaled(1000, 1, 2, 0, -2, -1), "m3/h": scaled(1, 3600, 3, 0, -1), "W/m2.K": scaled(1000, 1, 0, 1, -3, -1), "one/s2": scaled(1, 1, 0, 0, -2), "one.one/one": scaled(1, 1), "one9": scaled(1, 1),
		"m.s/g.K": scaled(1, 1, 1, -1, 1, -1), "m2.m3": scaled(1, 1, 5), "m9": scaled(1, 1, 9), "m/m9": scaled(1, 1, -8), "m.s.m": scaled(1, 1, 2, 0, 1), "one/m9.g9.s9.K9": scaled(1, 1, -9, -9, -9, -9),
		"pct.pct": scaled(1, 10000), "pct/ppm": scaled(10000, 1), "h/min": scaled(60, 1), "l/l": scaled(1, 1), "km/mm": scaled(1000000, 1), "l3": scaled(1, 1000000000, 9),
		"1*m": scaled(1, 1, 1), "2*m": scaled(2, 1, 1), "1/2*m": scaled(1, 2, 1), "2/1*m": scaled(2, 1, 1), "4/8*one": scaled(1, 2), "7/7*s": scaled(1, 1, 0, 0, 1), "1000*W": scaled(1000000, 1, 2, 1, -3), "6/4*min": scaled(90, 1, 0, 0, 1), "1/60*min": scaled(1, 1, 0, 0, 1),
		"100000000000*one": scaled(most, 1), "1/100000000000*one": scaled(1, most), "100000000000/99999999999*one": scaled(most, most-1), "100000000000/100000000000*one": scaled(1, 1), "100000000000/99999999999*one/m9.g9.s9.K9": scaled(most, most-1, -9, -9, -9, -9),
		// The scale and the powers of one factor come to a unit together, whatever the powers are for themselves.
		"1/100000000000*km4": scaled(10, 1, 4), "10/1*one/km3": scaled(1, 100000000, -3), "1/100000000000*one/mm4": scaled(10, 1, -4), "100000000000*mm4": scaled(1, 10, 4), "100000000000*one/km4": scaled(1, 10, -4), "K.s": scaled(1, 1, 0, 0, 1, 1),
	} {
		if u, e := units.Parse(s); u != want || e != api.OK {
			t.Errorf("Parse of %q: %v, %d, not %v", s, u, e, want)
		}
	}
}

func TestP4_1Errors(t *testing.T) {
	for want, texts := range map[api.Errno][]string{
		api.ErrSyntax: {
			"", " ", "m ", " m", "m s", ".", "/", "*", "m.", ".m", "m..s", "m/", "/m", "m//s", "m/s/s", "m./s", "m/.s", "m/s.", "m1", "m0", "m10", "m22", "m2m", "one2x", "2m", "2", "m-1", "m^2", "m\n", "m\x00", "\xff", "\u00b5m", "m\u00b2", "m_s", "m,s", "m:s", "m@", "m[", "m`", "m{",
			"*m", "5*", "5*.m", "5*/m", "2*3*m", "m*2", "m*s", "1/2", "1/2/3*m", "/2*m", "1/*m", "01*m", "1/02*m", "0*m", "00*m", "1/0*m", "0/1*m", "-1*m", "+1*m", "1.5*m", "1e3*m", "0x1*m", "1_0*m", " 1*m", "1 *m",
			"100000000001*m", "1/100000000001*m", "18446744073709551617*m", "99999999999999999999999999*m", "kw*m", "5*kw..m", "degC/degC/", "degC.", "degC1", "2*degC2/",
			"100000000000/99999999999*one/m9.g9.s9.K99", strings.Repeat("m", 41), strings.Repeat("m.", 20) + "m", "1*" + strings.Repeat("m", 39), strings.Repeat("m", 100000),
		},
		api.ErrUnknown: {
			"kw", "A", "Z", "a", "z", "k", "mmm", "Kg", "KWH", "degc", "degF", "kw.degC", "degC.kw", "degC2.kw", "2*degC.kw", "m9.m.kw", "m/kw", "100000000000*km.kw", "kw9", "ones", strings.Repeat("m", 40), "z/m9.m",
		},
		api.ErrType: {
			"degC/s", "2*degC", "1*degC", "1/1*degC", "degC2", "degC.one", "one.degC", "one/degC", "degC/degC", "s.degC9", "one/degC2", "m9.m.degC", "100000000000*km.degC", "m9.m/degC",
		},
		api.ErrRange: {
			"m9.m", "m.m9", "m5.m5", "l4", "l3.m", "m9.m/m", "one/m9.m", "one/l4", "s/s9.s2", "K9.K", "g5.kg5", "100000000000*km", "100000000000*min", "1/100000000000*mm", "one/kWh2", "kWh2", "kWh.kWh", "MJ.km", "one/MJ.km", "100000000000*km/km", "100000000000*km.mm", "1/100000000000*mm.km", "bar2", "1/3*d9", "ppm2",
			// The greater powers of 86400 and of their divisors wrap around a word.
			"d9", "d4", "kWh9", "one/d9", "1/99999999999*d9",
		},
	} {
		for _, s := range texts {
			if u, e := units.Parse(s); u != (units.Unit{}) || e != want {
				t.Errorf("Parse of %.60q: %v, %d, not %d", s, u, e, want)
			}
		}
	}
}

// form is the form of texts, numbers apart that are too great.
var form = regexp.MustCompile(`^(?:([1-9][0-9]*)(?:/([1-9][0-9]*))?\*)?([A-Za-z]+[2-9]?(?:\.[A-Za-z]+[2-9]?)*)(?:/([A-Za-z]+[2-9]?(?:\.[A-Za-z]+[2-9]?)*))?$`)

// hasForm is the definition of what has the form of a text.
func hasForm(s string) bool {
	parts := form.FindStringSubmatch(s)
	if len(s) > 40 || parts == nil {
		return false
	}
	for _, number := range parts[1:3] {
		if n, err := strconv.Atoi(number); number != "" && (err != nil || n > units.MaxScale) {
			return false
		}
	}
	return true
}

func TestP4_1FormOfTexts(t *testing.T) {
	source := rand.New(rand.NewSource(1))
	pieces := []string{"m", "s", "degC", "kWh", "k", "one", "2", "9", "1", "0", "10", "100000000000", ".", ".", "/", "*", "*", "-", " "}
	found := map[api.Errno]int{}
	for range 200000 {
		s := ""
		for range source.Intn(8) {
			s += pieces[source.Intn(len(pieces))]
		}
		u, e := units.Parse(s)
		if (e != api.ErrSyntax) != hasForm(s) {
			t.Fatalf("Parse of %q: %d", s, e)
		}
		if units.Valid(u) != (e == api.OK) || e != api.OK && u != (units.Unit{}) {
			t.Fatalf("Parse of %q: %v, %d", s, u, e)
		}
		found[e]++
	}
	for _, e := range []api.Errno{api.OK, api.ErrSyntax, api.ErrUnknown, api.ErrType, api.ErrRange} {
		if found[e] < 50 {
			t.Errorf("the result %d came %d times", e, found[e])
		}
	}
}

// All strings of few bytes that may be significant.
func TestP4_1ShortTexts(t *testing.T) {
	const alphabet = "mK1092./* -\xffz"
	list := []string{""}
	for range 5 {
		var longer []string
		for _, s := range list {
			if _, e := units.Parse(s); (e != api.ErrSyntax) != hasForm(s) {
				t.Fatalf("Parse of %q: %d", s, e)
			}
			for i := range len(alphabet) {
				longer = append(longer, s+alphabet[i:i+1])
			}
		}
		list = longer
	}
}

func TestP4_2Print(t *testing.T) {
	const most = units.MaxScale
	for s, u := range map[string]units.Unit{
		"1000*m2/s2.K": scaled(1000, 1, 2, 0, -2, -1), "1/3600*m3/s": scaled(1, 3600, 3, 0, -1), "2*one": scaled(2, 1), "1/2*one": scaled(1, 2), "3/2*one": scaled(3, 2), "m2": scaled(1, 1, 2), "one/m": scaled(1, 1, -1), "one/s2": scaled(1, 1, 0, 0, -2), "2*one/s": scaled(2, 1, 0, 0, -1), "60*one/s": scaled(60, 1, 0, 0, -1),
		"m.g.s.K": scaled(1, 1, 1, 1, 1, 1), "one/m.g.s.K": scaled(1, 1, -1, -1, -1, -1), "m9.g9.s9.K9": scaled(1, 1, 9, 9, 9, 9), "g.K2/m3.s": scaled(1, 1, -3, 1, -1, 2), "m.s/g.K": scaled(1, 1, 1, -1, 1, -1), "m.g/s2": scaled(1, 1, 1, 1, -2), "m2.g/s2": scaled(1, 1, 2, 1, -2), "999*g/m.s2": scaled(999, 1, -1, 1, -2),
		"100000000000*m": scaled(most, 1, 1), "1/100000000000*m": scaled(1, most, 1), "100000000000/99999999999*one/m9.g9.s9.K9": scaled(most, most-1, -9, -9, -9, -9), "10*m": scaled(10, 1, 1), "1/10*m": scaled(1, 10, 1), "61*s": scaled(61, 1, 0, 0, 1),
		"K2": scaled(1, 1, 0, 0, 0, 2), "5/9*K": shifted(5, 9, 255372), "K": shifted(1, 1, 273151), "2*K": shifted(2, 1, 273150), "m3": scaled(1, 1, 3), "1/1000*m2": scaled(1, 1000, 2),
	} {
		if got, e := units.Print(u); got != s || e != api.OK {
			t.Errorf("Print of %v: %q, %d, not %q", u, got, e, s)
		}
	}
	for _, row := range known {
		if s, e := units.Print(row.unit); s != row.name || e != api.OK {
			t.Errorf("Print of %s: %q, %d", row.name, s, e)
		}
	}
	for text, want := range map[string]string{"1000*W": "kW", "N.m": "J", "kg/m.s2": "Pa", "mm.m2": "l", "one/s": "Hz", "one/min": "rpm", "kW.h": "kWh", "J/s": "W", "m/m": "one", "1/100*one": "pct", "24*h": "d", "m.mm/m": "mm", "N/m2": "Pa", "kJ/kg.K": "1000*m2/s2.K", "m3/h": "1/3600*m3/s", "pct.pct": "1/10000*one"} {
		if s, e := units.Print(parsed(t, text)); s != want || e != api.OK {
			t.Errorf("Print of %s: %q, %d, not %q", text, s, e, want)
		}
	}
}

func TestP4_5ParseOfPrint(t *testing.T) {
	source := rand.New(rand.NewSource(2))
	list := valid()
	for range 20000 {
		list = append(list, random(source))
	}
	for _, u := range list {
		s, e := units.Print(u)
		if e != api.OK || len(s) > 40 || !hasForm(s) {
			t.Fatalf("Print of %v: %q, %d", u, s, e)
		}
		if u.Offset != 0 && s != "degC" {
			u.Offset = 0
		}
		if back, e := units.Parse(s); back != u || e != api.OK {
			t.Fatalf("Parse of the text %q of %v: %v, %d", s, u, back, e)
		}
	}
}
