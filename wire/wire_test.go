package wire_test

import (
	"math"
	"math/rand"
	"strconv"
	"strings"
	"testing"

	"plenum/api"
	"plenum/units"
	"plenum/wire"
)

// analog, binary and multi make types.
func analog(unit string) api.Type { return api.Type{Kind: api.Analog, Unit: unit} }
func binary() api.Type            { return api.Type{Kind: api.Binary} }
func multi(states int) api.Type   { return api.Type{Kind: api.Multi, States: states} }

// longest is one of the longest canonical texts of units.
const longest = "100000000000/99999999999*one/m9.g9.s9.K9"

// texts are types with their texts.
func texts() map[string]api.Type {
	list := map[string]api.Type{"binary": binary()}
	for _, unit := range append(units.Names(), "m2", "one/s2", "m/s", "2*K", "1/2*m", "1000*m2/s2.K", "1/3600*m3/s", "1/60*one", longest) {
		list["analog "+unit] = analog(unit)
	}
	for n := 1; n <= api.MaxStates; n++ {
		list["multi "+strconv.Itoa(n)] = multi(n)
	}
	return list
}

// badType is what is no type, with its error.
type badType struct {
	t    api.Type
	want api.Errno
}

// badTypes are what is no type.
func badTypes() []badType {
	list := []badType{
		{api.Type{}, api.ErrType}, {api.Type{Kind: 4}, api.ErrType}, {api.Type{Kind: -1}, api.ErrType}, {api.Type{Kind: math.MinInt}, api.ErrType}, {api.Type{Kind: math.MaxInt, States: 1}, api.ErrType}, {api.Type{Kind: api.Null, Unit: "K"}, api.ErrType}, {api.Type{Kind: api.Null, States: 2}, api.ErrType},
		{api.Type{Kind: api.Binary, Unit: "K"}, api.ErrType}, {api.Type{Kind: api.Binary, Unit: "one"}, api.ErrType}, {api.Type{Kind: api.Binary, States: 2}, api.ErrType}, {api.Type{Kind: api.Binary, States: -1}, api.ErrType},
		{api.Type{Kind: api.Analog, Unit: "K", States: 1}, api.ErrType}, {api.Type{Kind: api.Analog, Unit: "K", States: -1}, api.ErrType},
		{api.Type{Kind: api.Multi, Unit: "one", States: 3}, api.ErrType}, {api.Type{Kind: api.Multi, Unit: "K"}, api.ErrType}, {api.Type{Kind: api.Multi, Unit: "K", States: 17}, api.ErrType},
	}
	for _, unit := range []string{"", " ", "kw", "K ", " K", "k", "kJ/kg.K", "J/s", "m.m", "1*K", "2/4*m", "100/100*K", "one.K", "degC2", "degC/s", "m//s", "m9.m", "K/one", "s.m", "60*s", "1000*m", "1/100*one", "\xff", longest + "9", strings.Repeat("m", 100000)} {
		list = append(list, badType{analog(unit), api.ErrType})
	}
	for _, n := range []int{0, -1, 17, 100, math.MinInt, math.MaxInt} {
		list = append(list, badType{multi(n), api.ErrRange})
	}
	return list
}

func TestP17_1Check(t *testing.T) {
	for text, x := range texts() {
		if e := wire.Check(x); e != api.OK {
			t.Errorf("Check of %s: %d", text, e)
		}
	}
	for _, c := range badTypes() {
		if e := wire.Check(c.t); e != c.want {
			t.Errorf("Check of %v: %d, not %d", c.t, e, c.want)
		}
	}
}

func TestP17_1CheckUnits(t *testing.T) {
	// The canonical texts are those that are printed.
	r := rand.New(rand.NewSource(1))
	for range 20000 {
		u := units.Unit{Num: 1, Den: 1}
		for i := range u.Exp {
			u.Exp[i] = max(min(r.Intn(30)-15, 9), -9) * r.Intn(2)
		}
		if r.Intn(2) == 0 {
			u.Num, u.Den = 1+r.Int63n(20), 1+r.Int63n(3)
		}
		text, e := units.Print(u)
		if e != api.OK {
			continue
		}
		if e := wire.Check(analog(text)); e != api.OK {
			t.Fatalf("Check of %s: %d", text, e)
		}
		// Leaving out a byte, or putting one in, gives a text that may be canonical or not.
		at := r.Intn(len(text))
		for _, other := range []string{text[:at] + text[at+1:], text[:at] + string("1290*/.mgsKW"[r.Intn(12)]) + text[at:]} {
			want := api.ErrType
			if u, e := units.Parse(other); e == api.OK {
				if printed, _ := units.Print(u); printed == other {
					want = api.OK
				}
			}
			if e := wire.Check(analog(other)); e != want {
				t.Fatalf("Check of %s: %d, not %d", other, e, want)
			}
		}
	}
}

func TestP17_1Fits(t *testing.T) {
	numbers := []int64{math.MinInt64, -api.MaxAnalog - 1, -api.MaxAnalog, -1, 0, 1, 2, 3, 4, 15, 16, 17, 1000, api.MaxAnalog, api.MaxAnalog + 1, 1<<32 + 1, math.MaxInt64}
	kinds := []int{api.Null, api.Analog, api.Binary, api.Multi, 4, -1}
	for text, x := range texts() {
		lo, hi := int64(0), int64(1)
		switch x.Kind {
		case api.Analog:
			lo, hi = -api.MaxAnalog, api.MaxAnalog
		case api.Multi:
			lo, hi = 1, int64(x.States)
		}
		for _, kind := range kinds {
			for _, n := range numbers {
				v := api.Value{Kind: kind, N: n}
				if fits, want := wire.Fits(v, x), kind == x.Kind && lo <= n && n <= hi; fits != want {
					t.Errorf("Fits of %v and %s: %v", v, text, fits)
				}
			}
		}
	}
	for _, c := range badTypes() {
		for _, kind := range append(kinds, c.t.Kind) {
			for _, n := range numbers {
				if v := (api.Value{Kind: kind, N: n}); wire.Fits(v, c.t) {
					t.Errorf("Fits of %v and %v, which is no type", v, c.t)
				}
			}
		}
	}
}

func TestP17_1First(t *testing.T) {
	for text, x := range texts() {
		want := api.Value{Kind: x.Kind}
		if x.Kind == api.Multi {
			want.N = 1
		}
		if v, e := wire.First(x); v != want || e != api.OK || !wire.Fits(v, x) {
			t.Errorf("First of %s: %v, %d", text, v, e)
		}
	}
	for _, c := range badTypes() {
		if v, e := wire.First(c.t); v != (api.Value{}) || e != c.want {
			t.Errorf("First of %v: %v, %d, not %d", c.t, v, e, c.want)
		}
	}
}

func TestP17_2Of(t *testing.T) {
	for i, c := range []struct {
		p    api.Point
		want api.Type
		e    api.Errno
	}{
		{api.Point{Kind: api.Analog}, analog("one"), api.OK}, {api.Point{Kind: api.Analog, Unit: "one"}, analog("one"), api.OK}, {api.Point{Kind: api.Analog, Unit: "degC"}, analog("degC"), api.OK},
		{api.Point{Kind: api.Analog, Unit: "kJ/kg.K"}, analog("1000*m2/s2.K"), api.OK}, {api.Point{Kind: api.Analog, Unit: "J/s"}, analog("W"), api.OK}, {api.Point{Kind: api.Analog, Unit: "m3/h"}, analog("1/3600*m3/s"), api.OK}, {api.Point{Kind: api.Analog, Unit: "1/100*one"}, analog("pct"), api.OK}, {api.Point{Kind: api.Analog, Unit: longest}, analog(longest), api.OK}, {api.Point{Kind: api.Analog, Unit: "60*one/h"}, analog("rpm"), api.OK},
		{api.Point{Kind: api.Binary}, binary(), api.OK}, {api.Point{Kind: api.Multi, States: []string{"a"}}, multi(1), api.OK}, {api.Point{Kind: api.Multi, States: make([]string, 16)}, multi(16), api.OK},
		// Other fields have no influence, whatever they are.
		{api.Point{Name: "?", Kind: api.Analog, Role: -1, Unit: "K", Low: 5, High: 3, Step: -1, States: make([]string, 20), Default: api.Value{Kind: 7}, MinOn: -1, MinOff: -1}, analog("K"), api.OK},
		{api.Point{Kind: api.Binary, Unit: "kw", States: make([]string, 20), Low: 1}, binary(), api.OK}, {api.Point{Kind: api.Multi, Unit: "kw", States: []string{"A", "A"}, High: 9, MinOn: 5}, multi(2), api.OK},
		{api.Point{Kind: api.Multi, States: []string{"a", "b", "c"}, Default: api.Value{Kind: api.Multi, N: 9}}, multi(3), api.OK},
		{api.Point{}, api.Type{}, api.ErrType}, {api.Point{Kind: 4, Unit: "K"}, api.Type{}, api.ErrType}, {api.Point{Kind: -1, Unit: "kw", States: make([]string, 20)}, api.Type{}, api.ErrType}, {api.Point{Kind: math.MaxInt}, api.Type{}, api.ErrType},
		{api.Point{Kind: api.Analog, Unit: "kw"}, api.Type{}, api.ErrUnknown}, {api.Point{Kind: api.Analog, Unit: "m//s"}, api.Type{}, api.ErrSyntax}, {api.Point{Kind: api.Analog, Unit: " "}, api.Type{}, api.ErrSyntax}, {api.Point{Kind: api.Analog, Unit: "degC/s"}, api.Type{}, api.ErrType}, {api.Point{Kind: api.Analog, Unit: "m9.m"}, api.Type{}, api.ErrRange}, {api.Point{Kind: api.Analog, Unit: longest + "9"}, api.Type{}, api.ErrSyntax},
		{api.Point{Kind: api.Multi}, api.Type{}, api.ErrRange}, {api.Point{Kind: api.Multi, States: []string{}}, api.Type{}, api.ErrRange}, {api.Point{Kind: api.Multi, States: make([]string, 17)}, api.Type{}, api.ErrRange},
	} {
		if x, e := wire.Of(c.p); x != c.want || e != c.e {
			t.Errorf("Of %d: %v, %d, not %v, %d", i, x, e, c.want, c.e)
		}
	}
}

func TestP17_3Text(t *testing.T) {
	for want, x := range texts() {
		if text, e := wire.Text(x); text != want || e != api.OK {
			t.Errorf("Text of %v: %q, %d", x, text, e)
		}
	}
	for _, c := range badTypes() {
		if text, e := wire.Text(c.t); text != "" || e != c.want {
			t.Errorf("Text of %v: %q, %d, not %d", c.t, text, e, c.want)
		}
	}
}

func TestP17_3Parse(t *testing.T) {
	for text, want := range texts() {
		if x, e := wire.Parse(text); x != want || e != api.OK {
			t.Errorf("Parse of %q: %v, %d", text, x, e)
		}
	}
	for _, text := range []string{
		"", " ", "null", "analog", "analog ", "analog  K", "analog K ", " analog K", "analog\tK", "analogK", "Analog K", "analog kw", "analog kJ/kg.K", "analog 1*K", "analog J/s", "analog K 1", "analog binary", "analog K\n", "analog K\x00",
		"binary ", " binary", "binary one", "binary 2", "Binary", "binar", "binaryy", "multi", "multi ", "multi 0", "multi 17", "multi 00", "multi 01", "multi 016", "multi +3", "multi -3", "multi -0", "multi 3 ", "multi  3", "multi3", "multi 3.0", "multi 1_0", "multi 0x3", "multi three", "multi 3 4", "MULTI 3", "multi 18446744073709551619", "multi 99999999999999999999999999",
		"u", "U", "T", "U*V", "one", "K", "3", "\xff", "analog " + longest + "9", "analog " + strings.Repeat("m", 100000), "multi " + strings.Repeat("9", 100000), strings.Repeat("multi ", 100000),
	} {
		if x, e := wire.Parse(text); x != (api.Type{}) || e != api.ErrSyntax {
			t.Errorf("Parse of %.60q: %v, %d", text, x, e)
		}
	}
}

func TestP17_3Random(t *testing.T) {
	r := rand.New(rand.NewSource(2))
	known := texts()
	var list []string
	for text := range known {
		list = append(list, text)
	}
	for range 50000 {
		text := list[r.Intn(len(list))]
		at := r.Intn(len(text))
		text = text[:at] + []string{"", "1", "6", " ", "m", "K", "/", "y"}[r.Intn(8)] + text[at+r.Intn(2):]
		x, e := wire.Parse(text)
		if e != api.OK {
			if _, isKnown := known[text]; isKnown || x != (api.Type{}) || e != api.ErrSyntax {
				t.Fatalf("Parse of %q: %v, %d", text, x, e)
			}
			continue
		}
		if again, e := wire.Text(x); again != text || e != api.OK || wire.Check(x) != api.OK {
			t.Fatalf("Parse of %q: %v, whose text is %q", text, x, again)
		}
	}
}
