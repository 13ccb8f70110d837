package pid_test

import (
	"math"
	"math/big"
	"math/rand"
	"slices"
	"testing"

	"plenum/api"
	"plenum/pid"
)

// most is the greatest analog number, day the greatest time.
const (
	most = api.MaxAnalog
	day  = api.DaySeconds
)

// valid are valid settings.
func valid() []pid.Settings {
	return []pid.Settings{
		{}, {Kp: 2000, Ti: 60, High: 100000}, {Kp: 2000, Ti: 60, High: 100000, Reverse: true},
		{Kp: most, Ti: day, Low: -most, High: most}, {Low: most, High: most}, {Low: -most, High: -most, Reverse: true},
		{Kp: 1, Ti: 1, Low: -5, High: -5}, {Kp: 1000, Low: -100, High: 100}, {Ti: 7, Low: 1, High: 2},
	}
}

// invalid are settings that are not valid.
func invalid() []pid.Settings {
	return []pid.Settings{
		{Kp: -1}, {Kp: most + 1}, {Kp: math.MaxInt64}, {Kp: math.MinInt64},
		{Ti: -1}, {Ti: day + 1}, {Ti: math.MaxInt64}, {Ti: math.MinInt64},
		{Low: -most - 1}, {Low: most + 1, High: most + 1}, {Low: math.MinInt64}, {Low: 1}, {Low: -4, High: -5},
		{High: most + 1}, {Low: -most - 1, High: -most - 1}, {High: math.MaxInt64}, {Low: math.MaxInt64, High: math.MinInt64},
		{Low: most, High: -most, Reverse: true},
	}
}

func TestP20_1Check(t *testing.T) {
	for _, s := range valid() {
		if e := pid.Check(s); e != api.OK {
			t.Errorf("Check(%v): %d", s, e)
		}
	}
	for _, s := range invalid() {
		if e := pid.Check(s); e != api.ErrInvalid {
			t.Errorf("Check(%v): %d", s, e)
		}
	}
}

// clamped returns n in the range of analog numbers.
func clamped(n int64) int64 {
	if n > most {
		return most
	}
	if n < -most {
		return -most
	}
	return n
}

// errorOf is the error, as the document says it.
func errorOf(s pid.Settings, set, now int64) int64 {
	set, now = clamped(set), clamped(now)
	if s.Reverse {
		return clamped(now - set)
	}
	return clamped(set - now)
}

// partOf is the proportional part, as the document says it: the product of two numbers in thousandths, rounded half away from zero.
func partOf(s pid.Settings, set, now int64) int64 {
	product := new(big.Int).Mul(big.NewInt(clamped(s.Kp)), big.NewInt(errorOf(s, set, now)))
	half := big.NewInt(int64(500 * product.Sign()))
	n := product.Add(product, half).Quo(product, big.NewInt(1000))
	if !n.IsInt64() {
		return int64(n.Sign()) * most
	}
	return clamped(n.Int64())
}

func TestP20_1Parts(t *testing.T) {
	for _, c := range []struct{ kp, set, now, err, part int64 }{
		{2000, 21000, 20000, 1000, 2000}, {2000, 20000, 21000, -1000, -2000}, {500, 3, 2, 1, 1}, {499, 3, 2, 1, 0}, {500, 2, 3, -1, -1}, {499, 2, 3, -1, 0},
		{0, 5, -5, 10, 0}, {1000, most, -most, most, most}, {1000, -most, most, -most, -most}, {1000, math.MaxInt64, math.MinInt64, most, most}, {1000, math.MaxInt64, most, 0, 0},
		{most, 1, 0, 1, 1000000000}, {most, 1001, 0, 1001, most}, {math.MaxInt64, 1000, 0, 1000, most}, {-1000, 7, 0, 7, -7}, {math.MinInt64, -1, 0, -1, 1000000000},
	} {
		s, r := pid.Settings{Kp: c.kp}, pid.Settings{Kp: c.kp, Reverse: true}
		if n := pid.Error(s, c.set, c.now); n != c.err {
			t.Errorf("Error of %d and %d: %d, not %d", c.set, c.now, n, c.err)
		}
		if n := pid.Error(r, c.set, c.now); n != -c.err {
			t.Errorf("reverse Error of %d and %d: %d, not %d", c.set, c.now, n, -c.err)
		}
		if n := pid.Proportional(s, c.set, c.now); n != c.part {
			t.Errorf("Proportional of %d and %d with %d: %d, not %d", c.set, c.now, c.kp, n, c.part)
		}
		if n := pid.Proportional(r, c.set, c.now); n != -c.part {
			t.Errorf("reverse Proportional of %d and %d with %d: %d, not %d", c.set, c.now, c.kp, n, -c.part)
		}
	}
	// The other settings do not matter, even if they are not valid.
	for _, s := range append(valid(), invalid()...) {
		for _, set := range edges() {
			for _, now := range edges() {
				if n, p := pid.Error(s, set, now), pid.Proportional(s, set, now); n != errorOf(s, set, now) || p != partOf(s, set, now) {
					t.Errorf("the error and part of %v, %d, %d: %d, %d", s, set, now, n, p)
				}
			}
		}
	}
}

// edges are numbers at the edges of ranges.
func edges() []int64 {
	return []int64{math.MinInt64, -2*most - 1, -most - 1, -most, -day, -1, 0, 1, 500, day, most - 1, most, most + 1, 2 * most, math.MaxInt64}
}

// scan is a scan of a controller with what it gives.
type scan struct {
	x           pid.State
	set, now    int64
	dt          int
	next        pid.State
	output      int64
	description string
}

// check tests scans of a controller.
func check(t *testing.T, s pid.Settings, list []scan) {
	t.Helper()
	for _, c := range list {
		if next, output, e := pid.Control(s, c.x, c.set, c.now, c.dt); next != c.next || output != c.output || e != api.OK {
			t.Errorf("%s: Control(%v, %v, %d, %d, %d): %v, %d, %d, not %v, %d", c.description, s, c.x, c.set, c.now, c.dt, next, output, e, c.next, c.output)
		}
	}
}

// ready is a state after a scan.
func ready(sum, rest int64) pid.State { return pid.State{Ready: true, Sum: sum, Rest: rest} }

func TestP20_2Integral(t *testing.T) {
	s := pid.Settings{Kp: 2000, Ti: 60, High: 100000}
	check(t, s, []scan{
		{pid.State{}, 21000, 20000, 30, ready(-1000, 0), 1000, "the first scan"},
		{pid.State{Sum: 7000, Rest: 59}, 21000, 20000, 30, ready(-1000, 0), 1000, "what a state that is not ready has does not matter"},
		{pid.State{Sum: -2 * most, Rest: day}, 21000, 20000, 30, ready(-1000, 0), 1000, "nor at the edges"},
		{pid.State{}, 20000, 21000, 30, ready(2000, 0), 0, "the first scan below the limit"},
		{ready(-1000, 0), 21000, 20000, 30, ready(0, 0), 2000, "the second scan"},
		{ready(0, 0), 21000, 21000, 30, ready(0, 0), 0, "the error 0"},
		{ready(98000, 0), 21000, 20000, 30, ready(98000, 0), 100000, "limited above"},
		{ready(97000, 0), 21000, 20000, 30, ready(98000, 0), 100000, "just not limited above"},
		{ready(97000, 1), 21000, 20000, 30, ready(98000, 1), 100000, "a rest at the limit"},
		{ready(97001, 1), 21000, 20000, 30, ready(98000, 0), 100000, "no rest beyond the limit"},
		{ready(3000, -1), 20000, 21000, 30, ready(2000, -1), 0, "a rest at the lower limit"},
		{ready(2999, -1), 20000, 21000, 30, ready(2000, 0), 0, "no rest below the limit"},
		{ready(5000, 0), 20001, 20000, 1, ready(5000, 2), 5002, "a rest"},
		{ready(5000, 2), 20001, 20000, 28, ready(5000, 58), 5002, "a rest of several scans"},
		{ready(5000, 58), 20001, 20000, 1, ready(5001, 0), 5003, "a rest that is enough"},
		{ready(5000, 59), 20001, 20000, 1, ready(5001, 1), 5003, "a rest that is more than enough"},
		{ready(5000, 0), 20000, 20001, 1, ready(5000, -2), 4998, "a rest below zero"},
		{ready(5000, -59), 20000, 20001, 1, ready(4999, -1), 4997, "a rest that is enough below zero"},
		{ready(5000, 1), 20000, 20001, 1, ready(5000, -1), 4998, "a rest that changes its sign"},
		{ready(5000, 59), 20000, 20000, 1, ready(5000, 59), 5000, "a rest that stays"},
		{ready(5000, day), 20000, 20000, 1, ready(5000+1440, 0), 6440, "the greatest rest"},
		{ready(5000, -day), 20000, 20000, 1, ready(5000-1440, 0), 3560, "the least rest"},
		{ready(2*most, day), 20000, 20000, day, ready(100000, 0), 100000, "the greatest state"},
		{ready(-2*most, -day), 20000, 20000, day, ready(0, 0), 0, "the least state"},
		{ready(0, 0), math.MaxInt64, math.MinInt64, day, ready(100000-most, 0), 100000, "the greatest error"},
		{ready(0, 0), math.MinInt64, math.MaxInt64, day, ready(most, 0), 0, "the least error"},
	})
	check(t, pid.Settings{Kp: 2000, Ti: 60, High: 1500}, []scan{
		{ready(-1000, 0), 21000, 20000, 30, ready(-500, 0), 1500, "the limit of the example"},
	})
	check(t, pid.Settings{Kp: 2000, Ti: 60, Low: 5000, High: 100000, Reverse: true}, []scan{
		{pid.State{}, 20000, 21000, 30, ready(4000, 0), 6000, "reverse"},
		{pid.State{}, 21000, 20000, 30, ready(7000, 0), 5000, "reverse, limited"},
	})
	check(t, pid.Settings{Kp: most, Ti: 1, Low: -most, High: most}, []scan{
		{pid.State{}, most, 0, day, ready(0, 0), most, "the greatest settings"},
		{pid.State{}, 0, most, day, ready(0, 0), -most, "the greatest settings, downwards"},
		{ready(-2*most, 0), most, 0, 1, ready(-most, 0), 0, "the greatest sum"},
	})
	check(t, pid.Settings{Kp: most, Ti: day, Low: -most, High: most}, []scan{
		{ready(-2*most, day), most, 0, day, ready(-most+1, 0), 1, "the greatest total"},
		{ready(2*most, -day), 0, most, day, ready(most-1, 0), -1, "the least total"},
	})
}

func TestP20_2Proportional(t *testing.T) {
	s := pid.Settings{Kp: 2000, Low: 10000, High: 13000}
	check(t, s, []scan{
		{pid.State{}, 21000, 20000, 1, ready(10000, 0), 12000, "the first scan"},
		{pid.State{Sum: 5, Rest: 7}, 21000, 20000, 1, ready(10000, 0), 12000, "a state that is not ready"},
		{ready(5, 7), 21000, 20000, day, ready(10000, 0), 12000, "a state that is ready"},
		{ready(10000, 0), 21500, 20000, 1, ready(10000, 0), 13000, "at the limit"},
		{ready(10000, 0), 21501, 20000, 1, ready(10000, 0), 13000, "limited above"},
		{ready(10000, 0), 20000, 20001, 1, ready(10000, 0), 10000, "limited below"},
		{ready(10000, 0), math.MaxInt64, math.MinInt64, 1, ready(10000, 0), 13000, "the greatest error"},
	})
	// The sum is not cut off before it is limited.
	check(t, pid.Settings{Kp: 1000, Low: -most, High: most}, []scan{{pid.State{}, most, 0, 1, ready(-most, 0), 0, "from the lowest limit"}})
	check(t, pid.Settings{Kp: 1000, Low: most, High: most}, []scan{{pid.State{}, most, 0, 1, ready(most, 0), most, "from the highest limit"}, {pid.State{}, 0, most, 1, ready(most, 0), most, "downwards from the highest limit"}})
}

func TestP20_2Errors(t *testing.T) {
	refuse := func(s pid.Settings, x pid.State, dt int) {
		t.Helper()
		if next, output, e := pid.Control(s, x, 21000, 20000, dt); next != (pid.State{}) || output != 0 || e != api.ErrInvalid {
			t.Errorf("Control(%v, %v, dt %d): %v, %d, %d", s, x, dt, next, output, e)
		}
	}
	for _, s := range invalid() {
		refuse(s, pid.State{}, 1)
		refuse(s, ready(0, 0), 1)
	}
	for _, s := range valid() {
		for _, isReady := range []bool{false, true} {
			for _, sum := range []int64{-2*most - 1, 2*most + 1, math.MinInt64, math.MaxInt64} {
				refuse(s, pid.State{Ready: isReady, Sum: sum}, 1)
			}
			for _, rest := range []int64{-day - 1, day + 1, math.MinInt64, math.MaxInt64} {
				refuse(s, pid.State{Ready: isReady, Rest: rest}, 1)
			}
			for _, dt := range []int{0, -1, day + 1, math.MinInt, math.MaxInt, 1<<32 + 1} {
				refuse(s, pid.State{Ready: isReady}, dt)
			}
		}
	}
}

// define returns a scan, as the document says it, with the quotient of the division in step 2.
func define(s pid.Settings, x pid.State, set, now int64, dt int) (pid.State, int64, int64) {
	part := partOf(s, set, now)
	limit := func(n, lo, hi *big.Int) *big.Int {
		if n.Cmp(lo) < 0 {
			return lo
		}
		if n.Cmp(hi) > 0 {
			return hi
		}
		return n
	}
	number := big.NewInt
	plus := func(a, b *big.Int) *big.Int { return new(big.Int).Add(a, b) }
	if s.Ti == 0 {
		output := limit(plus(number(s.Low), number(part)), number(s.Low), number(s.High))
		return pid.State{Ready: true, Sum: s.Low}, output.Int64(), 0
	}
	sum, rest := number(x.Sum), number(x.Rest)
	if !x.Ready {
		sum, rest = plus(number(s.Low), number(-part)), number(0)
	}
	total := plus(new(big.Int).Mul(number(part), number(int64(dt))), rest)
	q, left := new(big.Int).QuoRem(total, number(s.Ti), new(big.Int))
	sum = plus(sum, q)
	kept := limit(sum, plus(number(s.Low), number(-part)), plus(number(s.High), number(-part)))
	if kept.Cmp(sum) != 0 {
		left = number(0)
	}
	return pid.State{Ready: true, Sum: kept.Int64(), Rest: left.Int64()}, plus(kept, number(part)).Int64(), q.Int64()
}

// pick returns a number from lo to hi, often at its ends or near 0.
func pick(r *rand.Rand, lo, hi int64) int64 {
	switch r.Intn(6) {
	case 0:
		return lo
	case 1:
		return hi
	case 2:
		return min(max(r.Int63n(2001)-1000, lo), hi)
	case 3:
		return min(max(r.Int63n(200001)-100000, lo), hi)
	}
	return lo + r.Int63n(hi-lo+1)
}

// settings returns random settings that are valid.
func settings(r *rand.Rand) pid.Settings {
	a, b := pick(r, -most, most), pick(r, -most, most)
	return pid.Settings{Kp: pick(r, 0, most), Ti: pick(r, 0, day), Low: min(a, b), High: max(a, b), Reverse: r.Intn(2) == 0}
}

// state returns a random state that is possible.
func state(r *rand.Rand) pid.State {
	return pid.State{Ready: r.Intn(4) != 0, Sum: pick(r, -2*most, 2*most), Rest: pick(r, -day, day)}
}

// pair returns a random set point and a measurement, which are often near.
func pair(r *rand.Rand) (set, now int64) {
	set = pick(r, -most-5, most+5)
	if r.Intn(2) == 0 {
		return set, set + r.Int63n(2001) - 1000
	}
	return set, pick(r, -most-5, most+5)
}

func TestP20_2Random(t *testing.T) {
	r := rand.New(rand.NewSource(202))
	inside := 0
	for range 100000 {
		s, x, dt := settings(r), state(r), int(pick(r, 1, day))
		set, now := pair(r)
		want, wanted, _ := define(s, x, set, now, dt)
		next, output, e := pid.Control(s, x, set, now, dt)
		if next != want || output != wanted || e != api.OK {
			t.Fatalf("Control(%v, %v, %d, %d, %d): %v, %d, %d, not %v, %d", s, x, set, now, dt, next, output, e, want, wanted)
		}
		// The state can be used in the next scan.
		if _, _, e := pid.Control(s, next, now, set, dt); e != api.OK {
			t.Fatalf("Control(%v, %v): %d", s, next, e)
		}
		if s.Low < output && output < s.High {
			inside++
		}
	}
	if inside < 5000 {
		t.Errorf("%d outputs are not at a limit", inside)
	}
}

func TestP20_3Track(t *testing.T) {
	s := pid.Settings{Kp: 2000, Ti: 60, Low: 5000, High: 100000}
	for _, c := range []struct{ set, now, output, sum int64 }{
		{20000, 20000, 50000, 50000}, {21000, 20000, 50000, 48000}, {20000, 21000, 50000, 52000}, {21000, 20000, 5000, 3000}, {21000, 20000, 4999, 3000}, {21000, 20000, 100000, 98000}, {21000, 20000, 100001, 98000},
		{0, 0, math.MaxInt64, 100000}, {0, 0, math.MinInt64, 5000}, {most, -most, 50000, 50000 - most}, {-most, most, 50000, 50000 + most},
	} {
		if x, e := pid.Track(s, c.set, c.now, c.output); x != ready(c.sum, 0) || e != api.OK {
			t.Errorf("Track(%d, %d, %d): %v, %d, not %d", c.set, c.now, c.output, x, e, c.sum)
		}
		s := s
		s.Reverse = true
		if x, e := pid.Track(s, c.now, c.set, c.output); x != ready(c.sum, 0) || e != api.OK {
			t.Errorf("reverse Track(%d, %d, %d): %v, %d, not %d", c.now, c.set, c.output, x, e, c.sum)
		}
		s.Ti = 0
		if x, e := pid.Track(s, c.set, c.now, c.output); x != ready(5000, 0) || e != api.OK {
			t.Errorf("Track(%d, %d, %d) without an integral part: %v, %d", c.set, c.now, c.output, x, e)
		}
	}
	for _, s := range invalid() {
		if x, e := pid.Track(s, 1, 2, 3); x != (pid.State{}) || e != api.ErrInvalid {
			t.Errorf("Track(%v): %v, %d", s, x, e)
		}
	}
}

func TestP20_3Random(t *testing.T) {
	r := rand.New(rand.NewSource(203))
	for range 50000 {
		s, output := settings(r), pick(r, -most-5, most+5)
		set, now := pair(r)
		x, e := pid.Track(s, set, now, output)
		want := ready(s.Low, 0)
		if s.Ti != 0 {
			want = ready(min(max(output, s.Low), s.High)-partOf(s, set, now), 0)
		}
		if x != want || e != api.OK {
			t.Fatalf("Track(%v, %d, %d, %d): %v, %d, not %v", s, set, now, output, x, e, want)
		}
		// With the error 0 the output goes on without a jump.
		if x, e = pid.Track(s, set, set, output); e != api.OK {
			t.Fatalf("Track(%v): %d", s, e)
		}
		for range 3 {
			next, got, e := pid.Control(s, x, set, set, 1+r.Intn(day))
			if e != api.OK || s.Ti != 0 && got != min(max(output, s.Low), s.High) {
				t.Fatalf("Control(%v, %v): %d, %d, not %d", s, x, got, e, output)
			}
			x = next
		}
	}
}

func TestP20_6Control(t *testing.T) {
	r := rand.New(rand.NewSource(206))
	left, rose := 0, 0
	for range 30000 {
		s := settings(r)
		if s.Ti == 0 {
			s.Ti = 1
		}
		x, dt := state(r), int(pick(r, 1, 600))
		set, now := pair(r)
		x, before, e := pid.Control(s, x, set, now, dt)
		for range 5 {
			part := pid.Proportional(s, set, now)
			set, now = pair(r)
			next, output, e2 := pid.Control(s, x, set, now, dt)
			_, _, q := define(s, x, set, now, dt)
			change := pid.Proportional(s, set, now) - part + q
			if e != api.OK || e2 != api.OK || output < s.Low || output > s.High || output != min(max(before+change, s.Low), s.High) {
				t.Fatalf("Control(%v, %v, %d, %d, %d): %d, %d behind %d, with the change %d", s, x, set, now, dt, output, e2, before, change)
			}
			if before == s.High && change < 0 || before == s.Low && change > 0 {
				left++
				if output == before && s.Low < s.High {
					t.Fatalf("Control(%v, %v, %d, %d, %d) stays at its limit %d", s, x, set, now, dt, before)
				}
			}
			up := pick(r, set, most+5)
			if set > up {
				up = set
			}
			_, other, e := pid.Control(s, x, up, now, dt)
			if e != api.OK || !s.Reverse && other < output || s.Reverse && other > output {
				t.Fatalf("Control(%v, %v, %d or %d, %d, %d): %d, %d and %d", s, x, set, up, now, dt, output, other, e)
			}
			if other != output {
				rose++
			}
			x, before = next, output
		}
	}
	if left < 5000 || rose < 5000 {
		t.Errorf("%d scans leave a limit, %d set points make a difference", left, rose)
	}
}

// A controller that stood at its limit for a day leaves it in the first scan.
func TestP20_6Windup(t *testing.T) {
	for _, s := range []pid.Settings{{Kp: 2000, Ti: 60, High: 100000}, {Kp: 2000, Ti: 60, Low: -100000}} {
		sign := int64(1)
		if s.High == 0 {
			sign = -1
		}
		x, output := pid.State{}, int64(0)
		for range day / 60 {
			x, output, _ = pid.Control(s, x, 20000+10000*sign, 20000, 60)
		}
		if output != 100000*sign {
			t.Fatalf("Control(%v): %d", s, output)
		}
		if _, output, _ = pid.Control(s, x, 20000+9999*sign, 20000, 1); output != 100000*sign {
			t.Errorf("Control(%v): %d, although q is greater than the change", s, output)
		}
		if _, output, _ = pid.Control(s, x, 20000+9000*sign, 20000, 1); output != (100000-2000+300)*sign {
			t.Errorf("Control(%v): %d", s, output)
		}
		if _, output, _ = pid.Control(s, x, 20000-60*sign, 20000, 60); output != (100000-20000-120-120)*sign {
			t.Errorf("Control(%v): %d", s, output)
		}
	}
}

func TestP20Examples(t *testing.T) {
	s := pid.Settings{Kp: 2000, Ti: 60, High: 100000}
	x, first, _ := pid.Control(s, pid.State{}, 21000, 20000, 30)
	y, second, _ := pid.Control(s, x, 21000, 20000, 30)
	_, third, _ := pid.Control(s, y, 21000, 21000, 30)
	if outputs := []int64{first, second, third}; !slices.Equal(outputs, []int64{1000, 2000, 0}) || x.Sum != -1000 {
		t.Errorf("%v, %v", outputs, x)
	}
	s.High = 1500
	if _, output, _ := pid.Control(s, x, 21000, 20000, 30); output != 1500 {
		t.Errorf("%d", output)
	}
}
