package psychro_test

import (
	"math/rand"
	"testing"

	"plenum/psychro"
)

// Saturation and dew are monotone, at all arguments of their ranges and around them.
func TestP22_3Rise(t *testing.T) {
	last := psychro.Saturation(coldest - 10)
	for x := int64(coldest - 9); x <= hottest+10; x++ {
		w := psychro.Saturation(x)
		if w < last {
			t.Fatalf("Saturation of %d: %d after %d", x, w, last)
		}
		last = w
	}
	last = psychro.Dew(-10)
	for w := int64(-9); w <= wettest+10; w++ {
		x := psychro.Dew(w)
		if x < last {
			t.Fatalf("Dew of %d: %d after %d", w, x, last)
		}
		last = x
	}
}

// sorted returns two numbers, the lesser one first, often near each other.
func sorted(r *rand.Rand, lo, hi int64) (int64, int64) {
	a, b := pick(r, lo, hi), pick(r, lo, hi)
	if r.Intn(2) == 0 {
		b = limited(a, lo, hi) + r.Int63n(3)
	}
	return min(a, b), max(a, b)
}

func TestP22_3Monotone(t *testing.T) {
	r := rand.New(rand.NewSource(223))
	for range 100000 {
		x, x2 := sorted(r, coldest, hottest)
		h, h2 := sorted(r, 0, full)
		if a, b, c := psychro.Ratio(x, h), psychro.Ratio(x2, h), psychro.Ratio(x, h2); a > b || a > c {
			t.Fatalf("Ratio of %d or %d, and %d or %d: %d, %d, %d", x, x2, h, h2, a, b, c)
		}
		w, w2 := sorted(r, 0, wettest)
		if a, b, c := psychro.Enthalpy(x, w), psychro.Enthalpy(x2, w), psychro.Enthalpy(x, w2); a > b || a > c {
			t.Fatalf("Enthalpy of %d or %d, and %d or %d: %d, %d, %d", x, x2, w, w2, a, b, c)
		}
	}
}

// The dew point of air is at most 7 thousandths above its temperature.
func TestP22_3Dew(t *testing.T) {
	r := rand.New(rand.NewSource(2233))
	for x := int64(-20000); x <= 65000; x++ {
		for _, h := range []int64{full, full - 1, pick(r, 0, full)} {
			if d := psychro.Dew(psychro.Ratio(x, h)); d > x+7 {
				t.Fatalf("the dew point at %d and %d is %d", x, h, d)
			}
		}
	}
}

// The saturation at the dew point is nearly the ratio.
func TestP22_3Saturation(t *testing.T) {
	for w := int64(637); w <= 153540; w++ {
		if s := psychro.Saturation(psychro.Dew(w)); s < w-5 || s > w+5 {
			t.Fatalf("the saturation at the dew point of %d is %d", w, s)
		}
	}
}

func TestP22_3Temperature(t *testing.T) {
	r := rand.New(rand.NewSource(2234))
	for range 20000 {
		w := pick(r, 0, wettest)
		low, high := psychro.Enthalpy(coldest, w), psychro.Enthalpy(hottest, w)
		given := low + 1 + r.Int63n(high-low)
		x := psychro.Temperature(given, w)
		if psychro.Enthalpy(x, w) < given || psychro.Enthalpy(x-1, w) >= given {
			t.Fatalf("Temperature of %d and %d: %d", given, w, x)
		}
	}
}

// A mixture lies between its streams.
func TestP22_3Mix(t *testing.T) {
	r := rand.New(rand.NewSource(2235))
	for range 50000 {
		x, x2 := limited(pick(r, coldest, hottest), coldest, hottest), limited(pick(r, coldest, hottest), coldest, hottest)
		w, w2 := limited(pick(r, 0, wettest), 0, wettest), limited(pick(r, 0, wettest), 0, wettest)
		x3, w3 := psychro.Mix(x, w, pick(r, 0, fastest), x2, w2, pick(r, 0, fastest))
		if x3 < min(x, x2) || x3 > max(x, x2) || w3 < min(w, w2) || w3 > max(w, w2) {
			t.Fatalf("Mix of %d, %d and %d, %d: %d, %d", x, w, x2, w2, x3, w3)
		}
	}
}
