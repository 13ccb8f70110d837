package value_test

import (
	"math/big"
	"math/rand"
	"regexp"
	"strings"
	"testing"

	"plenum/api"
	"plenum/value"
)

// points are points of all kinds, and such of no kind.
func points() []api.Point {
	return []api.Point{
		inUnit("degC", -50000, 50000), inUnit("foot", 5, -5), fan(), speed(), {Kind: api.Multi}, {Kind: api.Multi, States: states(16)}, {Kind: api.Multi, States: states(20)}, {}, {Kind: 4, States: []string{"a"}}, {Kind: -1},
	}
}

func TestP12_1Text(t *testing.T) {
	room := inUnit("degC", 0, 1000)
	for _, c := range []struct {
		p    api.Point
		v    api.Value
		want string
		e    api.Errno
	}{
		{room, analog(21500), "21.5", api.OK}, {room, analog(0), "0", api.OK}, {room, analog(-5), "-0.005", api.OK}, {room, analog(1000), "1", api.OK}, {room, analog(-1000), "-1", api.OK}, {room, analog(10), "0.01", api.OK}, {room, analog(120), "0.12", api.OK}, {room, analog(123456), "123.456", api.OK}, {room, analog(100000), "100", api.OK}, {room, analog(most), "1000000000", api.OK}, {room, analog(-most), "-1000000000", api.OK}, {room, analog(1 - most), "-999999999.999", api.OK},
		{fan(), binary(0), "off", api.OK}, {fan(), binary(1), "on", api.OK}, {speed(), multi(1), "off", api.OK}, {speed(), multi(2), "low", api.OK}, {speed(), multi(3), "high", api.OK}, {api.Point{Kind: api.Multi, States: states(20)}, multi(16), "sp", api.OK},
		// The names of states may be any texts.
		{api.Point{Kind: api.Multi, States: []string{"", "null", "a b\n", "null"}}, multi(1), "", api.OK}, {api.Point{Kind: api.Multi, States: []string{"", "null", "a b\n", "null"}}, multi(3), "a b\n", api.OK}, {api.Point{Kind: api.Multi, States: []string{"", "null", "a b\n", "null"}}, multi(4), "null", api.OK},
		{room, binary(1), "", api.ErrType}, {room, multi(1), "", api.ErrType}, {fan(), analog(0), "", api.ErrType}, {fan(), multi(1), "", api.ErrType}, {speed(), analog(1), "", api.ErrType}, {speed(), binary(1), "", api.ErrType}, {speed(), multi(4), "", api.ErrType}, {speed(), multi(16), "", api.ErrType}, {api.Point{Kind: api.Multi}, multi(1), "", api.ErrType}, {api.Point{}, analog(0), "", api.ErrType}, {api.Point{Kind: 7}, multi(1), "", api.ErrType}, {api.Point{Kind: api.Analog, States: states(3)}, multi(1), "", api.ErrType},
	} {
		if s, e := value.Text(c.p, c.v); s != c.want || e != c.e {
			t.Errorf("Text(%+v, %v): %q, %d, not %q, %d", c.p, c.v, s, e, c.want, c.e)
		}
	}
	for _, p := range points() {
		if s, e := value.Text(p, api.Value{}); s != "null" || e != api.OK {
			t.Errorf("Text(%+v, Null): %q, %d", p, s, e)
		}
		for _, v := range invalid() {
			if s, e := value.Text(p, v); s != "" || e != api.ErrInvalid {
				t.Errorf("Text(%+v, %v): %q, %d", p, v, s, e)
			}
		}
	}
}

// checkParse tests Parse.
func checkParse(t *testing.T, p api.Point, s string, want api.Value, e api.Errno) {
	t.Helper()
	if v, got := value.Parse(p, s); v != want || got != e {
		t.Errorf("Parse(%+v, %q): %v, %d, not %v, %d", p, s, v, got, want, e)
	}
}

func TestP12_1Parse(t *testing.T) {
	twice := api.Point{Kind: api.Multi, States: []string{"a", "b", "a", "", "null", "b"}}
	for _, p := range points() {
		checkParse(t, p, "null", api.Value{}, api.OK)
	}
	checkParse(t, twice, "null", api.Value{}, api.OK)
	for s, n := range map[string]int64{"off": 0, "on": 1} {
		checkParse(t, fan(), s, binary(n), api.OK)
	}
	for s, n := range map[string]int64{"off": 1, "low": 2, "high": 3} {
		checkParse(t, speed(), s, multi(n), api.OK)
	}
	for s, n := range map[string]int64{"a": 1, "b": 2, "": 4} {
		checkParse(t, twice, s, multi(n), api.OK)
	}
	for _, s := range []string{"", "On", "OFF", "1", "0", "yes", "on ", " on", "onoff", "of", "Null", "null ", "NULL", "low", "\x00"} {
		checkParse(t, fan(), s, api.Value{}, api.ErrSyntax)
	}
	for _, s := range []string{"", "medium", "Off", "offlow", "lo", "low ", "on", "1", "2", "0.001", "Null", strings.Repeat("low", 1<<16)} {
		checkParse(t, speed(), s, api.Value{}, api.ErrUnknown)
	}
	for _, p := range []api.Point{{}, {Kind: 4}, {Kind: 7, States: []string{"on", "5"}}, {Kind: -1}} {
		for _, s := range []string{"", "on", "off", "5", "Null", "low"} {
			checkParse(t, p, s, api.Value{}, api.ErrType)
		}
	}
	// No value is one of the states above the sixteenth.
	many := api.Point{Kind: api.Multi, States: append(states(20), "sa")}
	checkParse(t, many, "sa", multi(1), api.OK)
	checkParse(t, many, "sp", multi(16), api.OK)
	for _, s := range []string{"sq", "sr", "ss", "st"} {
		checkParse(t, many, s, api.Value{}, api.ErrUnknown)
	}
	checkParse(t, api.Point{Kind: api.Multi}, "", api.Value{}, api.ErrUnknown)
	// The unit and the range of the point have no influence.
	for _, p := range []api.Point{{Kind: api.Analog}, inUnit("foot", 5, -5), inUnit("degC", 0, 1)} {
		checkParse(t, p, "21.5", analog(21500), api.OK)
		checkParse(t, p, "-21.5", analog(-21500), api.OK)
	}
}

// The numbers: those of chapter 7, with at most 40 bytes.
func TestP12_1ParseNumber(t *testing.T) {
	room := inUnit("degC", -50000, 50000)
	for s, n := range map[string]int64{"0": 0, "0.0": 0, "0.000": 0, "1": 1000, "1.5": 1500, "1.50": 1500, "1.500": 1500, "0.001": 1, "-0.001": -1, "-0.100": -100, "-1": -1000, "10": 10000, "1000000000": most, "1000000000.000": most, "-1000000000": -most, "999999999.999": most - 1, "2026": 2026000} {
		checkParse(t, room, s, analog(n), api.OK)
	}
	for _, s := range []string{
		"", "007", "00", "01", "-01", "00.5", "-00.5", "-0", "-0.0", "-0.000", "1e3", "1.", ".5", "-.5", "-", "--1", "-1-", "1-", "+1", "1.2.3", "1.2345", "0.0000", "1,5", " 1", "1 ", "  1", "1 # comment", "1#", "1:", "1 2", "1\n", "\n1", "\t1", "1\x00", "0x10", "1_0", "*", "1*", "*1", "-*", "12:30", "1:", "12:30:15", "2026-12-31", "2026-13-01", "*-*-*", "2026-*", "2026-12", "on", "off", "Null", "nul", "nulll", "\"5\"", "(5)", "５", "1\xff", "NaN", "Inf",
		strings.Repeat("1", 41), "1" + strings.Repeat("0", 40), "-" + strings.Repeat("1", 40), strings.Repeat("9", 37) + ".000", strings.Repeat("9", 1<<16), "0" + strings.Repeat("1", 39), strings.Repeat(" ", 40) + "1",
	} {
		checkParse(t, room, s, api.Value{}, api.ErrSyntax)
	}
	for _, s := range []string{"1000000000.001", "-1000000000.001", "1000000000.5", "1000000001", "-1000000001", "9223372036854775807", "9223372036854775808", "-9223372036854775809", "18446744073709551616", strings.Repeat("1", 40), "1" + strings.Repeat("0", 39), "-" + strings.Repeat("9", 39), strings.Repeat("9", 36) + ".000"} {
		checkParse(t, room, s, api.Value{}, api.ErrRange)
	}
}

// numberForm is the form of a number.
var numberForm = regexp.MustCompile(`^-?(0|[1-9][0-9]*)(\.[0-9]{1,3})?$`)

// number is the definition of what Parse returns for an analog point.
func number(s string) (api.Value, api.Errno) {
	if s == "null" {
		return api.Value{}, api.OK
	}
	if len(s) > 40 || !numberForm.MatchString(s) {
		return api.Value{}, api.ErrSyntax
	}
	x, _ := new(big.Rat).SetString(s)
	x.Mul(x, big.NewRat(1000, 1))
	if x.Sign() == 0 && s[0] == '-' {
		return api.Value{}, api.ErrSyntax
	}
	if x.Num().CmpAbs(big.NewInt(most)) > 0 {
		return api.Value{}, api.ErrRange
	}
	return analog(x.Num().Int64()), api.OK
}

// All strings of few bytes that may be significant.
func TestP12_1ShortNumbers(t *testing.T) {
	const alphabet = "019-.: *#a"
	list := []string{""}
	for range 6 {
		var longer []string
		for _, s := range list {
			want, e := number(s)
			checkParse(t, inUnit("", 0, 0), s, want, e)
			for i := range len(alphabet) {
				longer = append(longer, s+alphabet[i:i+1])
			}
		}
		list = longer
	}
}

func TestP12_1RandomNumbers(t *testing.T) {
	source := rand.New(rand.NewSource(121))
	pieces := []string{"0", "1", "9", "000", "999", "-", ".", "1000000000", "00000000", " "}
	found := map[api.Errno]int{}
	for range 100000 {
		s := ""
		for range source.Intn(8) {
			s += pieces[source.Intn(len(pieces))]
		}
		want, e := number(s)
		checkParse(t, inUnit("", 0, 0), s, want, e)
		found[e]++
	}
	for _, e := range []api.Errno{api.OK, api.ErrSyntax, api.ErrRange} {
		if found[e] < 1000 {
			t.Errorf("the result %d came %d times", e, found[e])
		}
	}
}

func TestP12_7TextsAreParsed(t *testing.T) {
	source := rand.New(rand.NewSource(127))
	check := func(p api.Point, v api.Value) {
		s, e := value.Text(p, v)
		if e != api.OK {
			return
		}
		if again, e := value.Parse(p, s); again != v || e != api.OK {
			t.Errorf("%v of %+v: %q, parsed as %v, %d", v, p, s, again, e)
		}
	}
	for _, p := range points() {
		for _, v := range valid() {
			check(p, v)
		}
	}
	for range 20000 {
		check(inUnit("", 0, 0), analog((source.Int63n(2*most)-most)/int64(1+source.Intn(1000000))))
	}
}
