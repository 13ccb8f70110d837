package psychro_test

import (
	"math"
	"math/big"
	"math/rand"
	"testing"

	"plenum/api"
	"plenum/psychro"
)

// The ranges of the document.
const (
	coldest, hottest = -100000, 200000
	wettest          = 1000000
	full             = 100000
	fastest          = 1000000000
	most             = api.MaxAnalog
)

// ratios is the table of the document, for every 5 degrees from -20 to 60.
func ratios() []int64 {
	return []int64{637, 1020, 1603, 2487, 3789, 5424, 7661, 10694, 14757, 20170, 27329, 36756, 49141, 65411, 86858, 115321, 153540}
}

// temperatures are those of the table.
func temperatures() []int64 {
	var list []int64
	for t := int64(-20000); t <= 60000; t += 5000 {
		list = append(list, t)
	}
	return list
}

// limited returns the number from lo to hi that is nearest to n.
func limited(n, lo, hi int64) int64 { return min(max(n, lo), hi) }

// rounded returns a * b / c, c being greater than 0, to the nearest integer, of two the one farther from zero.
func rounded(a, b, c int64) int64 {
	n, by := new(big.Int).Mul(big.NewInt(a), big.NewInt(b)), big.NewInt(c)
	isNegative := n.Sign() < 0
	n.Abs(n).Mul(n, big.NewInt(2)).Add(n, by)
	n.Div(n, by.Mul(by, big.NewInt(2)))
	if isNegative {
		n.Neg(n)
	}
	return n.Int64()
}

// between returns the height at x of the pieces between points, and that of the first or the last point outside of them.
func between(x int64, xs, ys []int64) int64 {
	end := len(xs) - 1
	if x <= xs[0] {
		return ys[0]
	}
	if x >= xs[end] {
		return ys[end]
	}
	i := 0
	for xs[i+1] <= x {
		i++
	}
	// The table rises, so what is added is positive, and rounding it rounds the sum.
	return ys[i] + rounded(x-xs[i], ys[i+1]-ys[i], xs[i+1]-xs[i])
}

// The definitions of the document.
func saturation(t int64) int64 { return between(t, temperatures(), ratios()) }

func dew(w int64) int64 { return between(w, ratios(), temperatures()) }

func ratio(t, humidity int64) int64 {
	return rounded(saturation(t), limited(humidity, 0, full), full)
}

func humidity(t, w int64) int64 {
	return min(rounded(limited(w, 0, wettest), full, saturation(t)), full)
}

func enthalpy(t, w int64) int64 {
	t, w = limited(t, coldest, hottest), limited(w, 0, wettest)
	return rounded(t, 1006, 1000) + rounded(w, 2501000+rounded(t, 1860, 1000), 1000000)
}

// pick returns a number from lo to hi or a bit outside of it, often one near the ends, and sometimes one far away.
func pick(r *rand.Rand, lo, hi int64) int64 {
	switch r.Intn(12) {
	case 0:
		return int64(r.Uint64())
	case 1:
		return []int64{math.MinInt64, math.MaxInt64, most, -most, most + 1, -most - 1}[r.Intn(6)]
	case 2:
		return lo + r.Int63n(7) - 3
	case 3:
		return hi + r.Int63n(7) - 3
	case 4:
		return r.Int63n(7) - 3
	}
	return lo + r.Int63n(hi-lo+1)
}

// extreme are numbers outside of all ranges.
func extreme() []int64 {
	return []int64{math.MinInt64, math.MinInt64 + 1, -1 << 32, -most - 1, -most, most, most + 1, 1 << 40, math.MaxInt64 - 1, math.MaxInt64}
}

func TestP22_1Saturation(t *testing.T) {
	for temperature, want := range map[int64]int64{
		20000: 14757, 22000: 16922, 12500: 9178, 0: 3789, -1: 3789, 1: 3789, 2: 3790,
		-20000: 637, -20001: 637, -90000: 637, -19999: 637, -19994: 637, -19993: 638, -100001: 637,
		60000: 153540, 60001: 153540, 59999: 153532, 200001: 153540, 55000: 115321, 54999: 115315, 55001: 115329,
	} {
		if w := psychro.Saturation(temperature); w != want {
			t.Errorf("Saturation of %d: %d, not %d", temperature, w, want)
		}
	}
	for i, temperature := range temperatures() {
		if w := psychro.Saturation(temperature); w != ratios()[i] {
			t.Errorf("Saturation of %d: %d, not %d", temperature, w, ratios()[i])
		}
	}
	for temperature := int64(-25000); temperature <= 65000; temperature++ {
		if w, want := psychro.Saturation(temperature), saturation(temperature); w != want {
			t.Fatalf("Saturation of %d: %d, not %d", temperature, w, want)
		}
	}
	for _, temperature := range extreme() {
		if w, want := psychro.Saturation(temperature), saturation(temperature); w != want {
			t.Errorf("Saturation of %d: %d, not %d", temperature, w, want)
		}
	}
}

func TestP22_1Dew(t *testing.T) {
	for w, want := range map[int64]int64{
		7661: 10000, 637: -20000, 636: -20000, 0: -20000, -1: -20000, 638: -19987, 1020: -15000, 1019: -15013, 1021: -14991,
		153540: 60000, 153541: 60000, 153539: 60000, 153530: 59999, 115321: 55000, 1000000: 60000, 1000001: 60000, 14757: 20000,
	} {
		if d := psychro.Dew(w); d != want {
			t.Errorf("Dew of %d: %d, not %d", w, d, want)
		}
	}
	for w := int64(-10); w <= 160000; w++ {
		if d, want := psychro.Dew(w), dew(w); d != want {
			t.Fatalf("Dew of %d: %d, not %d", w, d, want)
		}
	}
	for _, w := range extreme() {
		if d, want := psychro.Dew(w), dew(w); d != want {
			t.Errorf("Dew of %d: %d, not %d", w, d, want)
		}
	}
}

func TestP22_1Humidity(t *testing.T) {
	for _, c := range []struct{ temperature, humidity, ratio int64 }{
		{20000, 50000, 7379}, {20000, 100000, 14757}, {20000, 100001, 14757}, {20000, math.MaxInt64, 14757}, {20000, 0, 0}, {20000, -1, 0}, {20000, math.MinInt64, 0},
		{-20000, 50000, 319}, {-90000, 50000, 319}, {-20000, 1, 0}, {-20000, 78, 0}, {-20000, 79, 1}, {60000, 99999, 153538}, {math.MaxInt64, 100000, 153540}, {math.MinInt64, 100000, 637},
	} {
		if w := psychro.Ratio(c.temperature, c.humidity); w != c.ratio {
			t.Errorf("Ratio of %d and %d: %d, not %d", c.temperature, c.humidity, w, c.ratio)
		}
	}
	for _, c := range []struct{ temperature, ratio, humidity int64 }{
		{20000, 7379, 50003}, {20000, 14757, 100000}, {20000, 14756, 99993}, {20000, 14758, 100000}, {20000, 99999, 100000}, {20000, 1, 7}, {20000, 0, 0}, {20000, -1, 0}, {20000, math.MinInt64, 0}, {20000, math.MaxInt64, 100000},
		{-20000, 1, 157}, {-90000, 319, 50078}, {60000, 1, 1}, {60000, 76770, 50000}, {math.MaxInt64, 153540, 100000}, {math.MinInt64, 637, 100000}, {math.MinInt64, 636, 99843},
	} {
		if h := psychro.Humidity(c.temperature, c.ratio); h != c.humidity {
			t.Errorf("Humidity of %d and %d: %d, not %d", c.temperature, c.ratio, h, c.humidity)
		}
	}
	r := rand.New(rand.NewSource(2212))
	for range 50000 {
		temperature, h := pick(r, -25000, 65000), pick(r, 0, full)
		if w, want := psychro.Ratio(temperature, h), ratio(temperature, h); w != want {
			t.Fatalf("Ratio of %d and %d: %d, not %d", temperature, h, w, want)
		}
		w := pick(r, 0, 2*saturation(temperature))
		if h, want := psychro.Humidity(temperature, w), humidity(temperature, w); h != want {
			t.Fatalf("Humidity of %d and %d: %d, not %d", temperature, w, h, want)
		}
	}
}

func TestP22_1Enthalpy(t *testing.T) {
	for _, c := range []struct{ temperature, ratio, want int64 }{
		{20000, 7379, 38849}, {0, 0, 0}, {0, 1000, 2501}, {1000, 0, 1006}, {-1000, 0, -1006}, {-1, 0, -1}, {-20000, 637, -18551},
		// Each product is rounded by itself, half away from zero.
		{250, 0, 252}, {-250, 0, -252}, {750, 0, 755}, {-750, 0, -755}, {25, 1000000, 2501072}, {-25, 1000000, 2500928}, {0, 500, 1251}, {0, 100, 250}, {20, 500, 1271},
		{100000, 0, 100600}, {200000, 0, 201200}, {200000, 1000000, 3074200}, {200001, 1000001, 3074200}, {math.MaxInt64, math.MaxInt64, 3074200},
		{-100000, 0, -100600}, {-100001, -1, -100600}, {math.MinInt64, math.MinInt64, -100600}, {-100000, 1000000, 2214400}, {math.MinInt64, math.MaxInt64, 2214400},
	} {
		if h := psychro.Enthalpy(c.temperature, c.ratio); h != c.want {
			t.Errorf("Enthalpy of %d and %d: %d, not %d", c.temperature, c.ratio, h, c.want)
		}
	}
	r := rand.New(rand.NewSource(2213))
	for range 100000 {
		temperature, w := pick(r, coldest, hottest), pick(r, 0, wettest)
		if h, want := psychro.Enthalpy(temperature, w), enthalpy(temperature, w); h != want {
			t.Fatalf("Enthalpy of %d and %d: %d, not %d", temperature, w, h, want)
		}
	}
}

func TestP22_1Temperature(t *testing.T) {
	for _, c := range []struct{ enthalpy, ratio, want int64 }{
		{38849, 7379, 20000}, {38850, 7379, 20001}, {38848, 7379, 19999}, {0, 0, 0}, {1, 0, 1}, {-1, 0, -1},
		{-100600, 0, -100000}, {-100599, 0, -99999}, {-100601, 0, -100000}, {-most, 0, -100000}, {math.MinInt64, 0, -100000}, {math.MinInt64, math.MaxInt64, -100000},
		{201200, 0, 200000}, {201199, 0, 199999}, {201201, 0, 200000}, {most, 0, 200000}, {math.MaxInt64, 0, 200000}, {math.MaxInt64, math.MinInt64, 200000},
		{3074200, 1000000, 200000}, {3074201, 1000000, 200000}, {2214400, 1000000, -100000}, {2214401, 1000000, -99999}, {2214403, 1000000, -99999}, {2214404, 1000000, -99998}, {2214404, math.MaxInt64, -99998}, {0, math.MinInt64, 0},
		// No temperature has the enthalpy 84 or -84: that of 84 is 85, and that of -84 is -85.
		{83, 0, 83}, {84, 0, 84}, {85, 0, 84}, {-83, 0, -83}, {-84, 0, -83}, {-85, 0, -84}, {502, 0, 499}, {503, 0, 500}, {504, 0, 501},
	} {
		if x := psychro.Temperature(c.enthalpy, c.ratio); x != c.want {
			t.Errorf("Temperature of %d and %d: %d, not %d", c.enthalpy, c.ratio, x, c.want)
		}
	}
}

// Temperature is the least one whose enthalpy is great enough.
func TestP22_1Least(t *testing.T) {
	r := rand.New(rand.NewSource(2214))
	for range 20000 {
		w := pick(r, 0, wettest)
		given := pick(r, enthalpy(coldest, w), enthalpy(hottest, w))
		x := psychro.Temperature(given, w)
		isHot, isCold := x == hottest, x == coldest
		if x < coldest || x > hottest || !isHot && enthalpy(x, w) < given || !isCold && enthalpy(x-1, w) >= given {
			t.Fatalf("Temperature of %d and %d: %d", given, w, x)
		}
	}
}

// streams are the arguments of Mix.
type streams struct{ t, w, f, t2, w2, f2 int64 }

// mixed is the definition of Mix.
func mixed(s streams) (int64, int64) {
	t, w, f := limited(s.t, coldest, hottest), limited(s.w, 0, wettest), limited(s.f, 0, fastest)
	t2, w2, f2 := limited(s.t2, coldest, hottest), limited(s.w2, 0, wettest), limited(s.f2, 0, fastest)
	if f == 0 && f2 == 0 {
		return t, w
	}
	return t + rounded(t2-t, f2, f+f2), w + rounded(w2-w, f2, f+f2)
}

func TestP22_1Mix(t *testing.T) {
	const least, greatest = math.MinInt64, math.MaxInt64
	for _, c := range []struct {
		streams
		t, w int64
	}{
		{streams{20000, 5000, 3, 0, 1000, 1}, 15000, 4000},
		{streams{20000, 5000, 0, 0, 1000, 1}, 0, 1000},
		{streams{20000, 5000, 1, 0, 1000, 0}, 20000, 5000},
		{streams{20000, 5000, 0, 0, 1000, 0}, 20000, 5000},
		{streams{20000, 5000, -1, 0, 1000, -2}, 20000, 5000},
		{streams{20000, 5000, -5, 0, 1000, 1}, 0, 1000},
		{streams{20000, 5000, least, 0, 1000, least}, 20000, 5000},
		{streams{300000, -7, 0, 0, 0, 0}, 200000, 0},
		{streams{greatest, greatest, 0, 0, 0, 0}, 200000, 1000000},
		{streams{least, least, 0, 0, 0, least}, -100000, 0},
		{streams{0, 0, greatest, 1000, 10, greatest}, 500, 5},
		{streams{0, 0, fastest, 1000, 10, fastest + 1}, 500, 5},
		{streams{0, 0, fastest + 1, 1000, 10, 1}, 0, 0},
		{streams{0, 0, fastest, 200000, 1000000, 1}, 0, 0},
		{streams{least, least, 1, greatest, greatest, 1}, 50000, 500000},
		// Half of a thousandth leads away from the first stream, in both directions.
		{streams{0, 0, 1, 1, 1, 1}, 1, 1},
		{streams{1, 1, 1, 0, 0, 1}, 0, 0},
		{streams{0, 0, 2, 1, 1, 1}, 0, 0},
		{streams{0, 0, 1, -1, 1, 1}, -1, 1},
		{streams{-5, 5, 1, -10, 10, 2}, -8, 8},
	} {
		if x, w := psychro.Mix(c.streams.t, c.streams.w, c.f, c.t2, c.w2, c.f2); x != c.t || w != c.w {
			t.Errorf("Mix of %v: %d, %d, not %d, %d", c.streams, x, w, c.t, c.w)
		}
	}
	r := rand.New(rand.NewSource(2215))
	for range 50000 {
		s := streams{pick(r, coldest, hottest), pick(r, 0, wettest), pick(r, 0, fastest), pick(r, coldest, hottest), pick(r, 0, wettest), pick(r, 0, fastest)}
		x, w := psychro.Mix(s.t, s.w, s.f, s.t2, s.w2, s.f2)
		if t2, w2 := mixed(s); x != t2 || w != w2 {
			t.Fatalf("Mix of %v: %d, %d, not %d, %d", s, x, w, t2, w2)
		}
	}
}

func TestP22_1Economizer(t *testing.T) {
	for _, c := range []struct {
		outside, outsideHumidity, inside, insideHumidity int64
		want                                             bool
	}{
		{15000, 50000, 22000, 50000, true},
		{30000, 80000, 24000, 50000, false},
		{22000, 50000, 22000, 50000, false},
		{21999, 50000, 22000, 50000, true},
		{22000, 49999, 22000, 50000, false}, // the ratio is the same
		{22000, 49990, 22000, 50000, true},
		{22001, 50000, 22000, 50000, false},
		{22000, 90000, 24000, 30000, false}, // colder, but with more water
		{24000, 30000, 22000, 90000, true},
		{-100001, 0, -100000, 0, false},
		{-100001, 0, -99999, 0, true},
		{math.MinInt64, math.MinInt64, math.MaxInt64, math.MaxInt64, true},
		{math.MaxInt64, math.MaxInt64, math.MinInt64, math.MinInt64, false},
		{math.MaxInt64, math.MaxInt64, 200000, 100000, false},
		{200000, 100000, math.MaxInt64, math.MaxInt64, false},
	} {
		if is := psychro.Economizer(c.outside, c.outsideHumidity, c.inside, c.insideHumidity); is != c.want {
			t.Errorf("Economizer of %v: %t", c, is)
		}
	}
	r := rand.New(rand.NewSource(2216))
	for range 50000 {
		x, h, x2, h2 := pick(r, -25000, 65000), pick(r, 0, full), pick(r, -25000, 65000), pick(r, 0, full)
		if r.Intn(2) == 0 {
			x2, h2 = limited(x, coldest, hottest)+r.Int63n(5)-2, limited(h, 0, full)+r.Int63n(5)-2
		}
		want := enthalpy(x, ratio(x, h)) < enthalpy(x2, ratio(x2, h2))
		if is := psychro.Economizer(x, h, x2, h2); is != want {
			t.Fatalf("Economizer of %d, %d, %d and %d: %t", x, h, x2, h2, is)
		}
	}
}
