package units_test

import (
	"math"
	"math/big"
	"math/rand"
	"slices"
	"testing"

	"plenum/api"
	"plenum/units"
)

const limit = api.MaxAnalog

// parsed returns the unit of what must be a text.
func parsed(t *testing.T, s string) units.Unit {
	t.Helper()
	u, e := units.Parse(s)
	if e != api.OK {
		t.Fatalf("Parse of %q: %d", s, e)
	}
	return u
}

// scaled returns a unit without an offset.
func scaled(num, den int64, exponents ...int) units.Unit {
	u := units.Unit{Num: num, Den: den}
	copy(u.Exp[:], exponents)
	return u
}

// shifted returns a temperature with an offset.
func shifted(num, den, offset int64) units.Unit {
	u := scaled(num, den, 0, 0, 0, 1)
	u.Offset = offset
	return u
}

// valid are ordinary units, and those at the limits.
func valid() []units.Unit {
	list := []units.Unit{
		units.None(), scaled(1, 100), scaled(1, units.MaxScale), scaled(units.MaxScale, 1), scaled(units.MaxScale, units.MaxScale-1), scaled(units.MaxScale-1, units.MaxScale), scaled(7, 9, 1, 2, 3, 4),
		scaled(1, 1, 9, 9, 9, 9), scaled(1, 1, -9, -9, -9, -9), scaled(1, 1, 9, -9, 9, -9), scaled(3, 2, 0, 0, 0, 1), scaled(1, 1, 0, 0, 0, -1), scaled(1, 1, 1, 0, 0, 1), scaled(1, 1, 0, 0, 0, 2),
		shifted(1, 1, 273150), shifted(5, 9, 255372), shifted(1, 1, units.MaxOffset), shifted(1, 1, -units.MaxOffset), shifted(units.MaxScale, 3, 1), shifted(3, units.MaxScale, -1), shifted(units.MaxScale, units.MaxScale-1, units.MaxOffset),
	}
	for _, row := range known {
		list = append(list, row.unit)
	}
	return list
}

// invalid are no units.
func invalid() []units.Unit {
	list := []units.Unit{
		{}, scaled(0, 1), scaled(1, 0), scaled(-1, 1), scaled(1, -1), scaled(-1, -1), scaled(math.MinInt64, 1), scaled(1, math.MinInt64), scaled(math.MinInt64, math.MinInt64),
		scaled(units.MaxScale+1, 1), scaled(1, units.MaxScale+1), scaled(math.MaxInt64, 1), scaled(1, math.MaxInt64), scaled(2, 4), scaled(2, 2), scaled(units.MaxScale, 10), scaled(15, 9),
		shifted(1, 1, units.MaxOffset+1), shifted(1, 1, -units.MaxOffset-1), shifted(1, 1, math.MinInt64), shifted(1, 1, math.MaxInt64), shifted(2, 2, 5), shifted(0, 0, 5),
	}
	for i := range 4 {
		for _, n := range []int{10, -10, math.MaxInt, math.MinInt} {
			u := units.None()
			u.Exp[i] = n
			list = append(list, u)
		}
	}
	// An offset belongs to temperatures only.
	for _, u := range []units.Unit{scaled(1, 1), scaled(1, 1, 0, 0, 0, -1), scaled(1, 1, 0, 0, 0, 2), scaled(1, 1, 1, 0, 0, 1), scaled(1, 1, 0, 1, 0, 1), scaled(1, 1, 0, 0, -1, 1), scaled(1, 1, 1, 0, 0, 0)} {
		for _, offset := range []int64{1, -1, 273150} {
			u.Offset = offset
			list = append(list, u)
		}
	}
	return list
}

func TestP4_1Valid(t *testing.T) {
	for _, u := range valid() {
		if !units.Valid(u) {
			t.Errorf("%v is not valid", u)
		}
	}
	for _, u := range invalid() {
		if units.Valid(u) {
			t.Errorf("%v is valid", u)
		}
	}
	if units.None() != (units.Unit{Exp: [4]int{}, Num: 1, Den: 1, Offset: 0}) {
		t.Errorf("None: %v", units.None())
	}
	if units.MaxScale != 100000000000 || units.MaxOffset != 1000000 {
		t.Error("the limits")
	}
}

func TestInvalidUnits(t *testing.T) {
	for _, bad := range invalid() {
		if s, e := units.Print(bad); s != "" || e != api.ErrInvalid {
			t.Errorf("Print of %v: %q, %d", bad, s, e)
		}
		if u, e := units.Delta(bad); u != (units.Unit{}) || e != api.ErrInvalid {
			t.Errorf("Delta of %v: %v, %d", bad, u, e)
		}
		if units.Compatible(bad, bad) {
			t.Errorf("%v is compatible with itself", bad)
		}
		// The other unit has an offset, or other exponents, or makes the result too great: this comes later.
		for _, good := range []units.Unit{units.None(), shifted(1, 1, 273150), scaled(units.MaxScale, 1, 9, 9, 9, 9)} {
			for _, pair := range [][2]units.Unit{{good, bad}, {bad, good}, {bad, bad}} {
				a, b := pair[0], pair[1]
				if u, e := units.Mul(a, b); u != (units.Unit{}) || e != api.ErrInvalid {
					t.Errorf("Mul of %v and %v: %v, %d", a, b, u, e)
				}
				if u, e := units.Div(a, b); u != (units.Unit{}) || e != api.ErrInvalid {
					t.Errorf("Div of %v and %v: %v, %d", a, b, u, e)
				}
				if n, e := units.Convert(5, a, b); n != 0 || e != api.ErrInvalid {
					t.Errorf("Convert from %v to %v: %d, %d", a, b, n, e)
				}
				if units.Compatible(a, b) {
					t.Errorf("%v and %v are compatible", a, b)
				}
			}
		}
	}
}

// ratio is a power of a scale.
func ratio(u units.Unit, sign int) *big.Rat {
	if sign < 0 {
		return big.NewRat(u.Den, u.Num)
	}
	return big.NewRat(u.Num, u.Den)
}

// combined is the definition of the product (sign 1) and the quotient (sign -1) of two valid units.
func combined(a, b units.Unit, sign int) (units.Unit, api.Errno) {
	if a.Offset != 0 || b.Offset != 0 {
		return units.Unit{}, api.ErrType
	}
	u := units.Unit{}
	for i := range u.Exp {
		u.Exp[i] = a.Exp[i] + sign*b.Exp[i]
		if u.Exp[i] > 9 || u.Exp[i] < -9 {
			return units.Unit{}, api.ErrRange
		}
	}
	scale := new(big.Rat).Mul(ratio(a, 1), ratio(b, sign))
	most := big.NewInt(units.MaxScale)
	if scale.Num().Cmp(most) > 0 || scale.Denom().Cmp(most) > 0 {
		return units.Unit{}, api.ErrRange
	}
	u.Num, u.Den = scale.Num().Int64(), scale.Denom().Int64()
	return u, api.OK
}

// random returns a valid unit without an offset.
func random(source *rand.Rand) units.Unit {
	u := units.Unit{}
	for i := range u.Exp {
		if source.Intn(2) == 0 {
			u.Exp[i] = source.Intn(19) - 9
		}
	}
	size := []int64{2, 10, 4000, 1000000, units.MaxScale}
	scale := big.NewRat(1+source.Int63n(size[source.Intn(5)]), 1+source.Int63n(size[source.Intn(5)]))
	u.Num, u.Den = scale.Num().Int64(), scale.Denom().Int64()
	return u
}

func TestP4_3Examples(t *testing.T) {
	for _, r := range []struct {
		a, b, product, quotient string
	}{
		{"kW", "h", "kWh", "1/3600*kJ/s2"}, {"m", "s", "m.s", "m/s"}, {"l", "s", "l.s", "l/s"}, {"one", "m", "m", "one/m"}, {"Pa", "m2", "N", "Pa/m2"}, {"rpm", "min", "one", "1/3600*one/s2"}, {"pct", "pct", "1/10000*one", "one"}, {"K", "K", "K2", "one"},
	} {
		a, b := parsed(t, r.a), parsed(t, r.b)
		if u, e := units.Mul(a, b); u != parsed(t, r.product) || e != api.OK {
			t.Errorf("%s by %s: %v, %d", r.a, r.b, u, e)
		}
		if u, e := units.Div(a, b); u != parsed(t, r.quotient) || e != api.OK {
			t.Errorf("%s through %s: %v, %d", r.a, r.b, u, e)
		}
	}
}

func TestP4_3MulAndDiv(t *testing.T) {
	source := rand.New(rand.NewSource(1))
	list := valid()
	for range 200 {
		list = append(list, random(source))
	}
	for _, a := range list {
		for _, b := range list {
			want, wantE := combined(a, b, 1)
			if u, e := units.Mul(a, b); u != want || e != wantE {
				t.Fatalf("Mul of %v and %v: %v, %d, not %v, %d", a, b, u, e, want, wantE)
			}
			want, wantE = combined(a, b, -1)
			if u, e := units.Div(a, b); u != want || e != wantE {
				t.Fatalf("Div of %v and %v: %v, %d, not %v, %d", a, b, u, e, want, wantE)
			}
			if got := units.Compatible(a, b); got != (a.Exp == b.Exp) {
				t.Fatalf("Compatible of %v and %v: %t", a, b, got)
			}
		}
	}
}

func TestP4_3Errors(t *testing.T) {
	celsius, second := parsed(t, "degC"), parsed(t, "s")
	for _, r := range []struct {
		a, b units.Unit
		mul  api.Errno
		div  api.Errno
	}{
		{celsius, second, api.ErrType, api.ErrType}, {second, celsius, api.ErrType, api.ErrType}, {celsius, celsius, api.ErrType, api.ErrType}, {celsius, units.None(), api.ErrType, api.ErrType},
		{celsius, scaled(units.MaxScale, 1, 0, 0, 0, 9), api.ErrType, api.ErrType},
		{scaled(1, 1, 9), scaled(1, 1, 1), api.ErrRange, api.OK}, {scaled(1, 1, 0, -9), scaled(1, 1, 0, 1), api.OK, api.ErrRange}, {scaled(1, 1, 0, 0, 0, -9), scaled(1, 1, 0, 0, 0, -1), api.ErrRange, api.OK},
		{scaled(units.MaxScale, 1), scaled(2, 1), api.ErrRange, api.OK}, {scaled(1, units.MaxScale), scaled(2, 1), api.OK, api.ErrRange}, {scaled(units.MaxScale-1, 1), scaled(1, units.MaxScale), api.OK, api.ErrRange},
		{scaled(1000000, 1), scaled(100000, 1), api.OK, api.OK}, {scaled(1000000, 1), scaled(100001, 1), api.ErrRange, api.OK}, {scaled(1, 1000000), scaled(1, 100000), api.OK, api.OK}, {scaled(1, 1000000), scaled(1, 100001), api.ErrRange, api.OK},
		{scaled(1<<32, 1), scaled(1<<32, 1), api.ErrRange, api.OK}, // the product is 2^64
	} {
		if u, e := units.Mul(r.a, r.b); e != r.mul || (u == units.Unit{}) != (e != api.OK) {
			t.Errorf("Mul of %v and %v: %v, %d", r.a, r.b, u, e)
		}
		if u, e := units.Div(r.a, r.b); e != r.div || (u == units.Unit{}) != (e != api.OK) {
			t.Errorf("Div of %v and %v: %v, %d", r.a, r.b, u, e)
		}
	}
}

func TestP4_3Delta(t *testing.T) {
	for _, u := range valid() {
		want := units.Unit{Exp: u.Exp, Num: u.Num, Den: u.Den}
		if d, e := units.Delta(u); d != want || e != api.OK {
			t.Errorf("Delta of %v: %v, %d", u, d, e)
		}
	}
	if d, _ := units.Delta(parsed(t, "degC")); d != parsed(t, "K") {
		t.Errorf("Delta of degC: %v", d)
	}
}

func TestP4_4Examples(t *testing.T) {
	for _, r := range []struct {
		n        int64
		from, to string
		want     int64
		e        api.Errno
	}{
		{20000, "degC", "K", 293150, api.OK}, {293150, "K", "degC", 20000, api.OK}, {0, "K", "degC", -273150, api.OK}, {-273150, "degC", "K", 0, api.OK}, {5, "degC", "degC", 5, api.OK},
		{1000, "kWh", "J", 3600000000, api.OK}, {1000, "l/s", "m3/h", 3600, api.OK}, {3600, "m3/h", "l/s", 1000, api.OK}, {50000, "pct", "one", 500, api.OK}, {1, "one", "ppm", 1000000, api.OK}, {60000, "rpm", "Hz", 1000, api.OK}, {1, "bar", "Pa", 100000, api.OK}, {0, "km", "mm", 0, api.OK},
		{1000, "m", "km", 1, api.OK}, {500, "m", "km", 1, api.OK}, {499, "m", "km", 0, api.OK}, {-500, "m", "km", -1, api.OK}, {-499, "m", "km", 0, api.OK}, {1499, "m", "km", 1, api.OK}, {1500, "m", "km", 2, api.OK}, {-1500, "m", "km", -2, api.OK},
		{1, "m", "3*m", 0, api.OK}, {2, "m", "3*m", 1, api.OK}, {-1, "m", "3*m", 0, api.OK}, {-2, "m", "3*m", -1, api.OK}, {1, "m", "2*m", 1, api.OK}, {-1, "m", "2*m", -1, api.OK},
		{limit, "m", "m", limit, api.OK}, {-limit, "m", "m", -limit, api.OK}, {limit, "km", "m", 0, api.ErrRange}, {-limit, "km", "m", 0, api.ErrRange}, {limit / 1000, "km", "m", limit, api.OK}, {limit/1000 + 1, "km", "m", 0, api.ErrRange},
		{limit, "degC", "K", 0, api.ErrRange}, {limit - 273150, "degC", "K", limit, api.OK}, {limit - 273149, "degC", "K", 0, api.ErrRange}, {-limit, "K", "degC", 0, api.ErrRange}, {-limit + 273150, "K", "degC", -limit, api.OK},
		{limit, "100000000000*m", "1/100000000000*m", 0, api.ErrRange}, {-limit, "100000000000*m", "1/100000000000*m", 0, api.ErrRange}, {limit, "1/100000000000*m", "100000000000*m", 0, api.OK}, {1, "100000000000*m", "m", 100000000000, api.OK},
		{1, "m", "s", 0, api.ErrType}, {limit, "km", "kg", 0, api.ErrType}, {1, "degC", "one/K", 0, api.ErrType}, {1, "J", "N", 0, api.ErrType}, {0, "m", "m2", 0, api.ErrType},
		{limit + 1, "m", "m", 0, api.ErrInvalid}, {-limit - 1, "m", "m", 0, api.ErrInvalid}, {limit + 1, "m", "s", 0, api.ErrInvalid}, {math.MaxInt64, "m", "km", 0, api.ErrInvalid}, {math.MinInt64, "m", "km", 0, api.ErrInvalid},
	} {
		if n, e := units.Convert(r.n, parsed(t, r.from), parsed(t, r.to)); n != r.want || e != r.e {
			t.Errorf("%d from %s to %s: %d, %d, not %d, %d", r.n, r.from, r.to, n, e, r.want, r.e)
		}
	}
	fahrenheit := shifted(5, 9, 255372)
	for n, want := range map[int64]int64{32000: 0, 212000: 100000, -40000: -40000, 0: -17778, 68000: 20000} {
		if got, e := units.Convert(n, fahrenheit, parsed(t, "degC")); got < want-1 || got > want || e != api.OK { // the offset is rounded down
			t.Errorf("%d degrees Fahrenheit: %d, %d", n, got, e)
		}
	}
}

// At the limits of units the result is rounded before it is compared with the limits of values.
func TestP4_4RoundedIntoTheLimits(t *testing.T) {
	from, to := scaled(units.MaxScale, 1), scaled(units.MaxScale-1, 1)
	for n, want := range map[int64]int64{limit - 11: limit - 1, limit - 10: limit, limit - 9: 0} {
		e := api.OK
		if want == 0 {
			e = api.ErrRange
		}
		if got, gotE := units.Convert(n, from, to); got != want || gotE != e {
			t.Errorf("%d: %d, %d", n, got, gotE)
		}
		if got, gotE := units.Convert(-n, from, to); got != -want || gotE != e {
			t.Errorf("%d: %d, %d", -n, got, gotE)
		}
	}
	third, whole := scaled(1, 3), scaled(1, 1)
	if got, e := units.Convert(limit, third, whole); got != 333333333333 || e != api.OK {
		t.Errorf("a third of the limit: %d, %d", got, e)
	}
}

// converted is the definition of Convert for valid units with the same exponents.
func converted(n int64, from, to units.Unit) (int64, api.Errno) {
	r := new(big.Rat).Mul(big.NewRat(n, 1), ratio(from, 1))
	r.Add(r, big.NewRat(from.Offset-to.Offset, 1))
	r.Mul(r, ratio(to, -1))
	size := new(big.Rat).Abs(r)
	size.Add(size, big.NewRat(1, 2))
	whole := new(big.Int).Quo(size.Num(), size.Denom())
	if whole.Cmp(big.NewInt(limit)) > 0 {
		return 0, api.ErrRange
	}
	return int64(r.Sign()) * whole.Int64(), api.OK
}

func TestP4_4IsExact(t *testing.T) {
	source := rand.New(rand.NewSource(2))
	offsets := []int64{0, 273150, 255372, units.MaxOffset, -units.MaxOffset, 1}
	found := map[api.Errno]int{}
	for range 200000 {
		from, to := random(source), random(source)
		if source.Intn(2) == 0 {
			from.Exp = [4]int{0, 0, 0, 1}
			from.Offset, to.Offset = offsets[source.Intn(6)], offsets[source.Intn(6)]
		}
		to.Exp = from.Exp
		n := []int64{source.Int63n(2*limit+1) - limit, source.Int63n(4000001) - 2000000, source.Int63n(41) - 20, limit, -limit}[source.Intn(5)]
		want, wantE := converted(n, from, to)
		got, e := units.Convert(n, from, to)
		if got != want || e != wantE {
			t.Fatalf("%d from %v to %v: %d, %d, not %d, %d", n, from, to, got, e, want, wantE)
		}
		found[e]++
	}
	if found[api.OK] < 1000 || found[api.ErrRange] < 1000 {
		t.Errorf("few results of a kind: %v", found)
	}
	big := []units.Unit{scaled(units.MaxScale, units.MaxScale-1), scaled(units.MaxScale-1, units.MaxScale), scaled(units.MaxScale-2, units.MaxScale-3), shifted(units.MaxScale, units.MaxScale-1, units.MaxOffset), shifted(units.MaxScale-1, units.MaxScale, -units.MaxOffset)}
	for _, from := range big {
		for _, to := range big {
			from.Exp, to.Exp = [4]int{0, 0, 0, 1}, [4]int{0, 0, 0, 1}
			for _, n := range []int64{0, 1, -1, limit / 2, limit - 20, limit - 1, limit, -limit, 1 - limit, 20 - limit} {
				want, wantE := converted(n, from, to)
				if got, e := units.Convert(n, from, to); got != want || e != wantE {
					t.Errorf("%d from %v to %v: %d, %d, not %d, %d", n, from, to, got, e, want, wantE)
				}
			}
		}
	}
}

func TestP4_5Products(t *testing.T) {
	source := rand.New(rand.NewSource(3))
	done := 0
	for range 20000 {
		a, b := random(source), random(source)
		ab, e1 := units.Mul(a, b)
		ba, e2 := units.Mul(b, a)
		if ab != ba || e1 != e2 {
			t.Fatalf("the order of %v and %v matters", a, b)
		}
		if e1 != api.OK {
			continue
		}
		done++
		if back, e := units.Div(ab, b); back != a || e != api.OK {
			t.Fatalf("%v by %v and through it: %v, %d", a, b, back, e)
		}
	}
	if done < 1000 {
		t.Errorf("few products: %d", done)
	}
}

func TestP4_5Conversions(t *testing.T) {
	source := rand.New(rand.NewSource(4))
	for _, u := range valid() {
		for _, n := range []int64{0, 1, -1, 12345, limit, -limit} {
			if got, e := units.Convert(n, u, u); got != n || e != api.OK {
				t.Errorf("%d from %v to itself: %d, %d", n, u, got, e)
			}
		}
	}
	for range 5000 {
		from, to := random(source), random(source)
		to.Exp = from.Exp
		var list []int64
		for range 20 {
			list = append(list, source.Int63n(20001)-10000)
		}
		slices.Sort(list)
		last := int64(-limit)
		for _, n := range list {
			got, e := units.Convert(n, from, to)
			if e == api.OK && got < last {
				t.Fatalf("%d from %v to %v is %d, after %d", n, from, to, got, last)
			}
			if e == api.OK {
				last = got
			}
		}
	}
}

func TestP4_5Differences(t *testing.T) {
	source := rand.New(rand.NewSource(5))
	for range 5000 {
		from, to := shifted(1+source.Int63n(20), 1, 273150), shifted(1, 1, source.Int63n(300000))
		fromDelta, _ := units.Delta(from)
		toDelta, _ := units.Delta(to)
		a, b := source.Int63n(200000)-100000, source.Int63n(200000)-100000
		x, e1 := units.Convert(a, from, to)
		y, e2 := units.Convert(b, from, to)
		d, e3 := units.Convert(a-b, fromDelta, toDelta)
		if e1 != api.OK || e2 != api.OK || e3 != api.OK || d-(x-y) > 2 || d-(x-y) < -2 {
			t.Fatalf("from %v to %v: %d and %d are %d and %d, and their difference %d", from, to, a, b, x, y, d)
		}
	}
}
