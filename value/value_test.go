package value_test

import (
	"math"
	"math/big"
	"math/rand"
	"slices"
	"testing"

	"plenum/api"
	"plenum/units"
	"plenum/value"
)

const most = api.MaxAnalog

// analog, binary and multi make values.
func analog(n int64) api.Value { return api.Value{Kind: api.Analog, N: n} }
func binary(n int64) api.Value { return api.Value{Kind: api.Binary, N: n} }
func multi(n int64) api.Value  { return api.Value{Kind: api.Multi, N: n} }

// states returns so many names.
func states(n int) []string {
	var list []string
	for i := range n {
		list = append(list, "s"+string(rune('a'+i)))
	}
	return list
}

// inUnit returns an analog point.
func inUnit(unit string, low, high int64) api.Point {
	return api.Point{Kind: api.Analog, Unit: unit, Low: low, High: high}
}

// fan and speed are a binary point, and one with states.
func fan() api.Point { return api.Point{Kind: api.Binary} }
func speed() api.Point {
	return api.Point{Kind: api.Multi, States: []string{"off", "low", "high"}}
}

// valid are values of all kinds, ordinary ones and such at the limits.
func valid() []api.Value {
	return []api.Value{
		{}, analog(0), analog(1), analog(-1), analog(5), analog(21500), analog(-20000), analog(1000), analog(most), analog(-most), analog(most - 1), analog(1 - most), binary(0), binary(1), multi(1), multi(2), multi(3), multi(15), multi(16),
	}
}

// invalid are no values.
func invalid() []api.Value {
	list := []api.Value{{N: 1}, {N: -1}, {N: math.MinInt64}, analog(most + 1), analog(-most - 1), analog(math.MaxInt64), analog(math.MinInt64), binary(2), binary(-1), binary(1000), binary(math.MaxInt64), binary(math.MinInt64), multi(0), multi(-1), multi(17), multi(math.MaxInt64), multi(math.MinInt64)}
	for _, kind := range []int{4, 5, -1, math.MaxInt, math.MinInt} {
		for _, n := range []int64{0, 1, -1} {
			list = append(list, api.Value{Kind: kind, N: n})
		}
	}
	return list
}

func TestP12_1Valid(t *testing.T) {
	for _, v := range valid() {
		if !value.Valid(v) {
			t.Errorf("%v is not valid", v)
		}
	}
	for _, v := range invalid() {
		if value.Valid(v) {
			t.Errorf("%v is valid", v)
		}
	}
}

// sign returns -1, 0 or 1.
func sign(less, equal bool) int {
	switch {
	case less:
		return -1
	case equal:
		return 0
	}
	return 1
}

func TestP12_2Compare(t *testing.T) {
	list := append(valid(), invalid()...)
	for _, a := range list {
		for _, b := range list {
			want := sign(a.Kind < b.Kind || a.Kind == b.Kind && a.N < b.N, a == b)
			if got := value.Compare(a, b); got != want {
				t.Errorf("Compare(%v, %v): %d, not %d", a, b, got, want)
			}
		}
	}
	for _, c := range []struct {
		a, b api.Value
		want int
	}{
		{api.Value{}, analog(-most), -1}, {analog(most), binary(0), -1}, {binary(1), multi(1), -1}, {multi(1), binary(1), 1}, {analog(9), analog(8), 1}, {analog(-9), analog(-8), -1}, {analog(math.MinInt64), analog(math.MaxInt64), -1}, {analog(math.MaxInt64), analog(math.MinInt64), 1},
		{api.Value{Kind: math.MinInt}, api.Value{Kind: math.MaxInt}, -1}, {api.Value{Kind: math.MaxInt}, api.Value{Kind: math.MinInt}, 1}, {api.Value{N: 5}, api.Value{N: 5}, 0},
	} {
		if got := value.Compare(c.a, c.b); got != c.want {
			t.Errorf("Compare(%v, %v): %d, not %d", c.a, c.b, got, c.want)
		}
	}
}

// conversion is a call of Convert and what it returns.
type conversion struct {
	from, to api.Point
	v, want  api.Value
	e        api.Errno
}

// checkConvert tests Convert.
func checkConvert(t *testing.T, c conversion) {
	t.Helper()
	if v, e := value.Convert(c.from, c.to, c.v); v != c.want || e != c.e {
		t.Errorf("Convert(%+v, %+v, %v): %v, %d, not %v, %d", c.from, c.to, c.v, v, e, c.want, c.e)
	}
}

func TestP12_3Convert(t *testing.T) {
	celsius, kelvin, wide := inUnit("degC", -50000, 100000), inUnit("K", 0, 300000), inUnit("K", -most, most)
	plain, share := inUnit("", 0, 1000), inUnit("pct", 0, 100000)
	named, scaled := inUnit("one", -most, most), inUnit("1/100*one", -most, most)
	kwh, joule := inUnit("kWh", 0, most), inUnit("J", 0, most)
	odd := api.Point{Kind: 7, Unit: "foot", Low: 5, States: []string{"a"}}
	for _, c := range []conversion{
		{celsius, kelvin, analog(20000), analog(293150), api.OK}, {celsius, kelvin, analog(26850), analog(300000), api.OK}, {celsius, kelvin, analog(26851), analog(300000), api.OK}, {celsius, kelvin, analog(-273150), analog(0), api.OK}, {celsius, kelvin, analog(-273151), analog(0), api.OK}, {kelvin, celsius, analog(293150), analog(20000), api.OK}, {kelvin, celsius, analog(0), analog(-50000), api.OK},
		{plain, share, analog(250), analog(25000), api.OK}, {share, plain, analog(25000), analog(250), api.OK}, {share, plain, analog(25004), analog(250), api.OK}, {share, plain, analog(25050), analog(251), api.OK}, {share, plain, analog(-25050), analog(0), api.OK}, {plain, named, analog(-7), analog(-7), api.OK}, {named, plain, analog(7), analog(7), api.OK}, {share, scaled, analog(-12345), analog(-12345), api.OK}, {plain, scaled, analog(most), api.Value{}, api.ErrRange},
		{kwh, joule, analog(1000), analog(3600000000), api.OK}, {kwh, joule, analog(277777), analog(999997200000), api.OK}, {kwh, joule, analog(277778), api.Value{}, api.ErrRange}, {kwh, joule, analog(-277778), api.Value{}, api.ErrRange}, {inUnit("rpm", 0, 0), inUnit("Hz", -most, most), analog(1500000), analog(25000), api.OK}, {inUnit("K", 0, 0), wide, analog(most), analog(most), api.OK}, {inUnit("degC", 0, 0), wide, analog(most - 273150), analog(most), api.OK}, {inUnit("degC", 0, 0), wide, analog(most - 273149), api.Value{}, api.ErrRange},
		// The range of from has no influence; that of to may have one number only.
		{inUnit("m", 5, -5), inUnit("km", 7, 7), analog(1000000), analog(7), api.OK}, {inUnit("m", math.MinInt64, math.MaxInt64), inUnit("mm", -most, -most), analog(5), analog(-most), api.OK}, {inUnit("m", 0, 0), inUnit("mm", most, most), analog(5), analog(most), api.OK}, {inUnit("m", 0, 0), inUnit("m", -most, most), analog(-most), analog(-most), api.OK},
		{celsius, kelvin, api.Value{}, api.Value{}, api.OK}, {fan(), fan(), api.Value{}, api.Value{}, api.OK}, {speed(), speed(), api.Value{}, api.Value{}, api.OK}, {odd, odd, api.Value{}, api.Value{}, api.OK}, {api.Point{}, api.Point{}, api.Value{}, api.Value{}, api.OK}, {odd, api.Point{Kind: 7, Unit: "J", States: []string{"b"}}, api.Value{}, api.Value{}, api.OK},
		{fan(), fan(), binary(1), binary(1), api.OK}, {fan(), fan(), binary(0), binary(0), api.OK}, {fan(), api.Point{Kind: api.Binary, Low: 5, High: -5, Unit: "foot", States: []string{"a"}}, binary(1), binary(1), api.OK}, {speed(), speed(), multi(3), multi(3), api.OK}, {speed(), api.Point{Kind: api.Multi, Low: 5, High: math.MaxInt64, Unit: "m", States: speed().States}, multi(1), multi(1), api.OK}, {api.Point{Kind: api.Multi, States: states(20)}, api.Point{Kind: api.Multi, States: states(20)}, multi(16), multi(16), api.OK},
	} {
		checkConvert(t, c)
	}
}

func TestP12_3ConvertErrors(t *testing.T) {
	celsius, kelvin := inUnit("degC", 0, 100000), inUnit("K", 0, 300000)
	reversed := inUnit("K", 1, 0)
	three := api.Point{Kind: api.Multi, States: []string{"off", "low", "other"}}
	for _, v := range invalid() {
		for _, from := range []api.Point{celsius, fan(), speed(), {}, {Kind: v.Kind}} {
			for _, to := range []api.Point{celsius, reversed, inUnit("foot", 0, 0), fan(), speed(), {}, {Kind: v.Kind}} {
				checkConvert(t, conversion{from, to, v, api.Value{}, api.ErrInvalid})
			}
		}
	}
	odd := api.Point{Kind: 7}
	for _, c := range []conversion{
		// The value is none of the kind of from, whatever else is wrong.
		{celsius, celsius, binary(1), api.Value{}, api.ErrType}, {celsius, celsius, multi(1), api.Value{}, api.ErrType}, {fan(), fan(), analog(0), api.Value{}, api.ErrType}, {fan(), fan(), multi(1), api.Value{}, api.ErrType}, {speed(), speed(), analog(1), api.Value{}, api.ErrType}, {speed(), speed(), multi(4), api.Value{}, api.ErrType}, {odd, odd, analog(1), api.Value{}, api.ErrType}, {api.Point{}, api.Point{}, binary(0), api.Value{}, api.ErrType}, {fan(), reversed, analog(0), api.Value{}, api.ErrType}, {api.Point{Kind: api.Multi}, api.Point{Kind: api.Multi}, multi(1), api.Value{}, api.ErrType},
		// The kinds of the points, and their states, also for Null.
		{celsius, fan(), analog(1), api.Value{}, api.ErrType}, {fan(), celsius, binary(1), api.Value{}, api.ErrType}, {fan(), speed(), binary(1), api.Value{}, api.ErrType}, {speed(), fan(), api.Value{}, api.Value{}, api.ErrType}, {fan(), reversed, api.Value{}, api.Value{}, api.ErrType}, {odd, api.Point{Kind: 8}, api.Value{}, api.Value{}, api.ErrType}, {api.Point{}, fan(), api.Value{}, api.Value{}, api.ErrType},
		{speed(), three, multi(1), api.Value{}, api.ErrType}, {speed(), three, api.Value{}, api.Value{}, api.ErrType}, {speed(), api.Point{Kind: api.Multi, States: speed().States[:2]}, multi(1), api.Value{}, api.ErrType}, {speed(), api.Point{Kind: api.Multi, States: []string{"off", "high", "low"}}, multi(1), api.Value{}, api.ErrType}, {speed(), api.Point{Kind: api.Multi}, multi(1), api.Value{}, api.ErrType},
		// Units.
		{celsius, inUnit("m", 0, 1), analog(1), api.Value{}, api.ErrType}, {celsius, inUnit("", 0, 1), analog(1), api.Value{}, api.ErrType}, {inUnit("", 0, 1), celsius, api.Value{}, api.Value{}, api.ErrType}, {inUnit("J", 0, 1), inUnit("W", 0, 1), analog(1), api.Value{}, api.ErrType}, {inUnit("m", 0, 1), inUnit("m2", 0, 1), analog(1), api.Value{}, api.ErrType},
		{celsius, inUnit("foot", 0, 1), analog(1), api.Value{}, api.ErrType}, {inUnit("foot", 0, 1), inUnit("foot", 0, 1), analog(1), api.Value{}, api.ErrType}, {inUnit("foot", 0, 1), inUnit("foot", 0, 1), api.Value{}, api.Value{}, api.ErrType}, {inUnit("foot", 0, 1), inUnit("", 0, 1), analog(1), api.Value{}, api.ErrType}, {inUnit("", 0, 1), inUnit(" ", 0, 1), analog(1), api.Value{}, api.ErrType}, {inUnit("m//s", 0, 1), inUnit("m/s", 0, 1), analog(1), api.Value{}, api.ErrType}, {inUnit("degC/s", 0, 1), inUnit("degC/s", 0, 1), analog(1), api.Value{}, api.ErrType}, {inUnit("m9.m", 0, 1), inUnit("m9.m", 0, 1), analog(1), api.Value{}, api.ErrType}, {inUnit("degC", 0, 1), inUnit("degC ", 0, 1), analog(1), api.Value{}, api.ErrType},
		{inUnit("m", 0, 1), inUnit("foot", 1, 0), analog(1), api.Value{}, api.ErrType}, {celsius, inUnit("m", 1, 0), analog(1), api.Value{}, api.ErrType},
		// The range of to, also for Null, and before that of the number.
		{celsius, reversed, analog(1), api.Value{}, api.ErrInvalid}, {celsius, reversed, api.Value{}, api.Value{}, api.ErrInvalid}, {celsius, inUnit("K", 0, most+1), analog(1), api.Value{}, api.ErrInvalid}, {celsius, inUnit("K", -most-1, 0), analog(1), api.Value{}, api.ErrInvalid}, {celsius, inUnit("K", math.MinInt64, math.MaxInt64), api.Value{}, api.Value{}, api.ErrInvalid}, {celsius, inUnit("K", most+1, most+2), analog(1), api.Value{}, api.ErrInvalid}, {celsius, inUnit("K", -most-2, -most-1), analog(1), api.Value{}, api.ErrInvalid}, {inUnit("km", 0, 0), inUnit("mm", 1, 0), analog(most), api.Value{}, api.ErrInvalid},
		{inUnit("km", 0, 0), inUnit("mm", 0, 1), analog(most), api.Value{}, api.ErrRange}, {inUnit("km", 0, 0), inUnit("mm", 0, 1), analog(-most), api.Value{}, api.ErrRange}, {inUnit("degC", 0, 0), kelvin, analog(most), api.Value{}, api.ErrRange}, {kelvin, inUnit("degC", 0, 0), analog(-most), api.Value{}, api.ErrRange},
	} {
		checkConvert(t, c)
	}
}

// exactly returns n thousandths of one unit in another one, rounded half away from zero.
func exactly(n int64, from, to units.Unit) *big.Int {
	x := new(big.Rat).Mul(big.NewRat(n, 1), big.NewRat(from.Num, from.Den))
	x.Add(x, big.NewRat(from.Offset-to.Offset, 1))
	x.Mul(x, big.NewRat(to.Den, to.Num))
	double := new(big.Int).Mul(x.Num(), big.NewInt(2))
	half := new(big.Int).Set(x.Denom())
	if x.Sign() < 0 {
		half.Neg(half)
	}
	return new(big.Int).Quo(double.Add(double, half), new(big.Int).Mul(x.Denom(), big.NewInt(2)))
}

func TestP12_3ConvertRandom(t *testing.T) {
	source := rand.New(rand.NewSource(123))
	texts := []string{"", "one", "pct", "ppm", "2/3*one", "degC", "K", "5/9*K", "J", "kWh", "MJ", "7*J", "W", "m3/h", "l/s", "mm", "km", "s", "d"}
	found := map[api.Errno]int{}
	for range 50000 {
		from := inUnit(texts[source.Intn(len(texts))], 0, 0)
		low := source.Int63n(2*most) - most
		to := inUnit(texts[source.Intn(len(texts))], low, low+source.Int63n(most-low+1))
		n := (source.Int63n(2*most) - most) / int64(math.Pow10(source.Intn(12)))
		old, next := unitOf(from), unitOf(to)
		want, e := api.Value{}, api.OK
		if old.Exp != next.Exp {
			e = api.ErrType
		} else if exact := exactly(n, old, next); exact.CmpAbs(big.NewInt(most)) > 0 {
			e = api.ErrRange
		} else {
			want = analog(max(to.Low, min(to.High, exact.Int64())))
		}
		checkConvert(t, conversion{from, to, analog(n), want, e})
		found[e]++
	}
	for _, e := range []api.Errno{api.OK, api.ErrType, api.ErrRange} {
		if found[e] < 500 {
			t.Errorf("the result %d came %d times", e, found[e])
		}
	}
}

// unitOf returns the unit of an analog point.
func unitOf(p api.Point) units.Unit {
	if p.Unit == "" {
		return units.None()
	}
	u, _ := units.Parse(p.Unit)
	return u
}

func TestP12_7ConvertToTheSamePoint(t *testing.T) {
	for _, unit := range []string{"", "degC", "K", "kWh", "2/3*one", "100000000000/99999999999*one/m9.g9.s9.K9"} {
		for _, span := range [][2]int64{{-most, most}, {0, 0}, {-5, 20000}, {most, most}} {
			p := inUnit(unit, span[0], span[1])
			for _, v := range valid() {
				if v.Kind == api.Analog {
					checkConvert(t, conversion{p, p, v, analog(max(p.Low, min(p.High, v.N))), api.OK})
				}
			}
		}
	}
}

func TestP12Memory(t *testing.T) {
	p, q := speed(), speed()
	value.Convert(p, q, multi(2))
	value.Text(p, multi(2))
	value.Parse(p, "low")
	list := []int{1, 2, 4}
	value.Derived(list)
	if !slices.Equal(p.States, speed().States) || !slices.Equal(q.States, speed().States) || !slices.Equal(list, []int{1, 2, 4}) {
		t.Errorf("changed arguments: %v, %v, %v", p, q, list)
	}
}
