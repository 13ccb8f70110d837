package pid_test

import (
	"math"
	"math/rand"
	"testing"

	"plenum/api"
	"plenum/pid"
)

func TestP20_4Follow(t *testing.T) {
	for _, c := range []struct {
		last, target, up, down int64
		dt                     int
		value                  int64
		scans                  int
		e                      api.Errno
	}{
		{0, 10000, 500, 0, 4, 2000, 5, api.OK},
		{0, 9999, 500, 0, 4, 2000, 5, api.OK},
		{0, 10001, 500, 0, 4, 2000, 6, api.OK},
		{0, 2000, 500, 0, 4, 2000, 1, api.OK},
		{0, 1999, 500, 0, 4, 1999, 1, api.OK},
		{0, 2001, 500, 0, 4, 2000, 2, api.OK},
		{10000, 0, 0, 500, 4, 8000, 5, api.OK},
		{10001, 0, 0, 500, 4, 8001, 6, api.OK},
		{100, -100, 9, 30, 4, -20, 2, api.OK},
		{0, -100, 0, 30, 4, -100, 1, api.OK},
		{5, 5, 0, 0, 1, 5, 0, api.OK},
		{5, 5, 9, 9, day, 5, 0, api.OK},
		{5, 6, 0, 9, 1, 5, 0, api.ErrNone},
		{5, 4, 9, 0, 1, 5, 0, api.ErrNone},
		{-most, most, 1, 0, 1, -most + 1, 2 * most, api.OK},
		{most, -most, 0, 1, 1, most - 1, 2 * most, api.OK},
		{-most, most, most, 0, 1, 0, 2, api.OK},
		{-most, most, most - 1, 0, 1, -1, 3, api.OK},
		{-most, most, most, 0, day, most, 1, api.OK},
		{most, -most, 0, most, day, -most, 1, api.OK},
		{-most, most, 1, 0, day, -most + day, 23148149, api.OK},
	} {
		if n, e := pid.Limit(c.last, c.target, c.up, c.down, c.dt); n != c.value || e != api.OK {
			t.Errorf("Limit from %d to %d by %d and %d, dt %d: %d, %d, not %d", c.last, c.target, c.up, c.down, c.dt, n, e, c.value)
		}
		if n, e := pid.Settle(c.last, c.target, c.up, c.down, c.dt); n != c.scans || e != c.e {
			t.Errorf("Settle from %d to %d by %d and %d, dt %d: %d, %d, not %d, %d", c.last, c.target, c.up, c.down, c.dt, n, e, c.scans, c.e)
		}
	}
}

func TestP20_4Errors(t *testing.T) {
	refuse := func(last, target, up, down int64, dt int) {
		t.Helper()
		if n, e := pid.Limit(last, target, up, down, dt); n != 0 || e != api.ErrInvalid {
			t.Errorf("Limit from %d to %d by %d and %d, dt %d: %d, %d", last, target, up, down, dt, n, e)
		}
		if n, e := pid.Settle(last, target, up, down, dt); n != 0 || e != api.ErrInvalid {
			t.Errorf("Settle from %d to %d by %d and %d, dt %d: %d, %d", last, target, up, down, dt, n, e)
		}
	}
	for _, n := range []int64{-most - 1, most + 1, math.MinInt64, math.MaxInt64} {
		refuse(n, 0, 1, 1, 1)
		refuse(0, n, 1, 1, 1)
		refuse(n, n, 1, 1, 1)
		refuse(n, 0, 0, 0, 1)
	}
	for _, rate := range []int64{-1, most + 1, math.MinInt64, math.MaxInt64} {
		// The rate of the other way has to be valid as well, and also if there is none to go.
		for _, target := range []int64{-5, 0, 5} {
			refuse(0, target, rate, 1, 1)
			refuse(0, target, 1, rate, 1)
			refuse(0, target, rate, 0, 1)
			refuse(0, target, 0, rate, 1)
		}
	}
	for _, dt := range []int{0, -1, day + 1, math.MinInt, math.MaxInt, 1<<32 + 1} {
		for _, target := range []int64{-5, 0, 5} {
			refuse(0, target, 1, 1, dt)
			refuse(0, target, 0, 0, dt)
		}
	}
}

// Limit is done as often as Settle says.
func TestP20_4Random(t *testing.T) {
	r := rand.New(rand.NewSource(204))
	for range 20000 {
		last, target, dt := r.Int63n(2001)-1000, r.Int63n(2001)-1000, 1+r.Intn(5)
		up, down := 1+r.Int63n(50), 1+r.Int63n(50)
		want, e := pid.Settle(last, target, up, down, dt)
		if e != api.OK {
			t.Fatalf("Settle: %d", e)
		}
		scans, value := 0, last
		for value != target {
			next, e := pid.Limit(value, target, up, down, dt)
			rises, most := next-value, up*int64(dt)
			if target < value {
				rises, most = -rises, down*int64(dt)
			}
			// What follows a target gets nearer, never passes it, and goes as far as it may.
			isPast := value < target && next > target || value > target && next < target
			if e != api.OK || isPast || rises <= 0 || rises > most || rises < most && next != target {
				t.Fatalf("Limit from %d to %d by %d and %d, dt %d: %d, %d", value, target, up, down, dt, next, e)
			}
			value = next
			scans++
		}
		if scans != want {
			t.Fatalf("Settle from %d to %d by %d and %d, dt %d: %d, not %d", last, target, up, down, dt, want, scans)
		}
	}
}

// What follows a target stays between it and the last value, at all numbers.
func TestP20_6Follow(t *testing.T) {
	r := rand.New(rand.NewSource(2064))
	for range 50000 {
		last, target := pick(r, -most, most), pick(r, -most, most)
		value, e := pid.Limit(last, target, pick(r, 0, most), pick(r, 0, most), int(pick(r, 1, day)))
		if e != api.OK || value < min(last, target) || value > max(last, target) {
			t.Fatalf("Limit from %d to %d: %d, %d", last, target, value, e)
		}
	}
}
