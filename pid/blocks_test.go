package pid_test

import (
	"math"
	"math/rand"
	"slices"
	"strings"
	"testing"

	"plenum/api"
	"plenum/block"
	"plenum/pid"
)

// analog and binary make values.
func analog(n int64) api.Value { return api.Value{Kind: api.Analog, N: n} }
func binary(n int64) api.Value { return api.Value{Kind: api.Binary, N: n} }

// integers makes a list of numbers, measured one of the inputs of pid.
func integers(numbers ...int64) []int64 { return numbers }

func measured(set, now, enable int64) []api.Value {
	return []api.Value{analog(set), analog(now), binary(enable)}
}

// step tests a scan of a block.
func step(t *testing.T, name string, params, state []int64, in []api.Value, dt int, next []int64, output int64) {
	t.Helper()
	p, s, values := slices.Clone(params), slices.Clone(state), slices.Clone(in)
	got, v, e := pid.Step(name, params, state, in, dt)
	if !slices.Equal(got, next) || v != analog(output) || e != api.OK {
		t.Errorf("Step of %s %v, %v with %v, dt %d: %v, %v, %d, not %v, %d", name, params, state, in, dt, got, v, e, next, output)
	}
	if !slices.Equal(params, p) || !slices.Equal(state, s) || !slices.Equal(in, values) {
		t.Errorf("Step of %s has changed its arguments", name)
	}
}

func TestP20_5Pid(t *testing.T) {
	params := integers(2000, 60, 5000, 100000, 0)
	step(t, "pid", params, integers(0, 0, 0), measured(21000, 20000, 1), 30, integers(1, 4000, 0), 6000)
	step(t, "pid", params, integers(1, 4000, 0), measured(21000, 20000, 1), 30, integers(1, 5000, 0), 7000)
	step(t, "pid", params, integers(1, 5000, 0), measured(20001, 20000, 1), 1, integers(1, 5000, 2), 5002)
	step(t, "pid", params, integers(1, 5000, 59), measured(20001, 20000, 1), 1, integers(1, 5001, 1), 5003)
	step(t, "pid", params, integers(1, 50000, -1), measured(20000, 20001, 1), 1, integers(1, 50000, -3), 49998)
	step(t, "pid", params, integers(0, 4000, 7), measured(21000, 20000, 1), 30, integers(1, 4000, 0), 6000)
	for _, state := range [][]int64{{0, 0, 0}, {1, 4000, 0}, {1, -2 * most, day}, {0, 2 * most, -day}} {
		for _, dt := range []int{1, 30, day} {
			step(t, "pid", params, state, measured(21000, 20000, 0), dt, integers(0, 0, 0), 5000)
			step(t, "pid", params, state, measured(math.MinInt64, math.MaxInt64, 0), dt, integers(0, 0, 0), 5000)
		}
	}
	reverse := integers(2000, 60, 5000, 100000, 1)
	step(t, "pid", reverse, integers(0, 0, 0), measured(20000, 21000, 1), 30, integers(1, 4000, 0), 6000)
	step(t, "pid", reverse, integers(0, 0, 0), measured(21000, 20000, 1), 30, integers(1, 7000, 0), 5000)
	step(t, "pid", integers(2000, 0, 5000, 8000, 0), integers(1, 7, 7), measured(21000, 20000, 1), 30, integers(1, 5000, 0), 7000)
	step(t, "pid", integers(2000, 0, 5000, 6000, 0), integers(0, 0, 0), measured(21000, 20000, 1), 30, integers(1, 5000, 0), 6000)
	step(t, "pid", integers(most, day, -most, most, 0), integers(1, -2*most, day), measured(most, 0, 1), day, integers(1, -most+1, 0), 1)
}

// The block pid is the controller, as long as it is enabled.
func TestP20_5Control(t *testing.T) {
	r := rand.New(rand.NewSource(205))
	for range 50000 {
		s, x, dt := settings(r), state(r), int(pick(r, 1, day))
		set, now := pair(r)
		params, numbers := integers(s.Kp, s.Ti, s.Low, s.High, 0), integers(0, x.Sum, x.Rest)
		if s.Reverse {
			params[4] = 1
		}
		if x.Ready {
			numbers[0] = 1
		}
		next, output, _ := pid.Control(s, x, set, now, dt)
		step(t, "pid", params, numbers, measured(set, now, 1), dt, integers(1, next.Sum, next.Rest), output)
		step(t, "pid", params, numbers, measured(set, now, 0), dt, integers(0, 0, 0), s.Low)
	}
}

func TestP20_5Rate(t *testing.T) {
	params := integers(500, 100)
	rate := func(state []int64, a int64, dt int, output int64) {
		t.Helper()
		step(t, "rate", params, state, []api.Value{analog(a)}, dt, integers(1, output), output)
	}
	rate(integers(0, 0), 7000, 4, 7000)
	rate(integers(0, 0), -7000, day, -7000)
	rate(integers(0, 0), math.MaxInt64, 4, most)
	rate(integers(0, 0), math.MinInt64, 4, -most)
	rate(integers(1, 0), 7000, 4, 2000)
	rate(integers(1, 7000), 20000, 4, 9000)
	rate(integers(1, 7000), 9000, 4, 9000)
	rate(integers(1, 7000), 8999, 4, 8999)
	rate(integers(1, 9000), 10000, 4, 10000)
	rate(integers(1, 10000), 0, 4, 9600)
	rate(integers(1, 10000), 9600, 4, 9600)
	rate(integers(1, 10000), 9601, 4, 9601)
	rate(integers(1, 10000), 10000, 4, 10000)
	rate(integers(1, most-5), math.MaxInt64, 4, most)
	rate(integers(1, -most), math.MinInt64, 4, -most)
	rate(integers(1, most), math.MinInt64, 1, most-100)
	params = integers(0, 0)
	rate(integers(1, 5), 7000, day, 5)
	rate(integers(1, 5), -7000, day, 5)
	rate(integers(0, 0), -7000, day, -7000)
	params = integers(most, most)
	rate(integers(1, -most), most, day, most)
	rate(integers(1, most), -most, 1, 0)
}

// refuse tests that a scan of a block gives an error.
func refuse(t *testing.T, name string, params, state []int64, in []api.Value, dt int, want api.Errno) {
	t.Helper()
	if next, output, e := pid.Step(name, params, state, in, dt); len(next) != 0 || output != (api.Value{}) || e != want {
		t.Errorf("Step of %.20q %v, %v with %v, dt %d: %v, %v, %d, not %d", name, params, state, in, dt, next, output, e, want)
	}
}

func TestP20_5Unknown(t *testing.T) {
	list := []string{"", "PID", "pid ", " rate", "rat", "rates", "\xff", strings.Repeat("pid", 10000)}
	for _, name := range block.Names() {
		if name != "pid" && name != "rate" {
			list = append(list, name)
		}
	}
	for _, name := range list {
		refuse(t, name, nil, nil, nil, 0, api.ErrUnknown)
		refuse(t, name, integers(1, 1), integers(0, 0), []api.Value{analog(1)}, 1, api.ErrUnknown)
	}
}

// sample is what can be used with a block.
type sample struct {
	name          string
	params, state []int64
	in            []api.Value
}

func samples() []sample {
	return []sample{
		{"pid", integers(2000, 60, 0, 100000, 0), integers(0, 0, 0), measured(21000, 20000, 1)},
		{"rate", integers(500, 100), integers(0, 0), []api.Value{analog(1)}},
	}
}

// refuseAll tests that a block refuses numbers and times, whatever its inputs are.
func refuseAll(t *testing.T, name string, params, state []int64, dt int) {
	t.Helper()
	for _, in := range [][]api.Value{measured(21000, 20000, 1), measured(21000, 20000, 0), {analog(1)}, {binary(1)}, nil, make([]api.Value, 3)} {
		refuse(t, name, params, state, in, dt, api.ErrInvalid)
	}
}

func TestP20_5Numbers(t *testing.T) {
	for _, c := range samples() {
		for _, list := range [][]int64{nil, c.params[1:], append(slices.Clone(c.params), 0), make([]int64, 1000)} {
			refuseAll(t, c.name, list, c.state, 1)
		}
		for _, list := range [][]int64{nil, c.state[1:], append(slices.Clone(c.state), 0), make([]int64, 1000)} {
			refuseAll(t, c.name, c.params, list, 1)
		}
		for _, dt := range []int{0, -1, day + 1, math.MinInt, math.MaxInt, 1<<32 + 1} {
			refuseAll(t, c.name, c.params, c.state, dt)
		}
	}
	for _, s := range invalid() {
		refuseAll(t, "pid", integers(s.Kp, s.Ti, s.Low, s.High, 0), integers(0, 0, 0), 1)
		refuseAll(t, "pid", integers(s.Kp, s.Ti, s.Low, s.High, 1), integers(1, 0, 0), 1)
	}
	for _, reverse := range []int64{-1, 2, math.MaxInt64, math.MinInt64} {
		refuseAll(t, "pid", integers(2000, 60, 0, 100000, reverse), integers(0, 0, 0), 1)
	}
	for _, list := range [][]int64{{-1, 0, 0}, {2, 0, 0}, {math.MaxInt64, 0, 0}, {0, 2*most + 1, 0}, {1, -2*most - 1, 0}, {0, 0, day + 1}, {1, 0, -day - 1}, {1, math.MinInt64, math.MinInt64}} {
		refuseAll(t, "pid", samples()[0].params, list, 1)
	}
	for _, list := range [][]int64{{-1, 1}, {1, -1}, {most + 1, 1}, {1, most + 1}, {math.MaxInt64, 1}, {1, math.MinInt64}} {
		refuseAll(t, "rate", list, integers(0, 0), 1)
		refuseAll(t, "rate", list, integers(1, 0), 1)
	}
	for _, list := range [][]int64{{0, 5}, {0, -1}, {0, 1}, {1, most + 1}, {1, -most - 1}, {-1, 0}, {2, 0}, {2, 5}, {1, math.MinInt64}, {math.MinInt64, 0}} {
		refuseAll(t, "rate", samples()[1].params, list, 1)
	}
}

func TestP20_5Inputs(t *testing.T) {
	for _, c := range samples() {
		for _, in := range [][]api.Value{nil, c.in[1:], append(slices.Clone(c.in), c.in[0]), make([]api.Value, 1000)} {
			refuse(t, c.name, c.params, c.state, in, 1, api.ErrType)
		}
		for i, good := range c.in {
			strange := []api.Value{{}, {N: 1}, {Kind: api.Multi, N: 1}, {Kind: 4, N: 1}, {Kind: -1}, binary(2), binary(-1), binary(math.MaxInt64), binary(math.MinInt64), binary(1<<32 + 1)}
			if good.Kind == api.Analog {
				strange = append(strange, binary(0), binary(1))
			} else {
				strange = append(strange, analog(0), analog(1))
			}
			for _, v := range strange {
				in := slices.Clone(c.in)
				in[i] = v
				refuse(t, c.name, c.params, c.state, in, 1, api.ErrType)
			}
		}
	}
	// A controller that is not enabled looks at its other inputs, too.
	for _, in := range [][]api.Value{{binary(1), analog(1), binary(0)}, {analog(1), {}, binary(0)}} {
		refuse(t, "pid", samples()[0].params, integers(0, 0, 0), in, 1, api.ErrType)
	}
}

func TestP20_5Memory(t *testing.T) {
	for _, c := range samples() {
		first, _, _ := pid.Step(c.name, c.params, c.state, c.in, 1)
		second, _, _ := pid.Step(c.name, c.params, c.state, c.in, 1)
		kept := slices.Clone(second)
		clear(first)
		if !slices.Equal(second, kept) || !slices.Equal(c.state, make([]int64, len(c.state))) {
			t.Errorf("the states of %s share memory", c.name)
		}
	}
}

func TestP1(t *testing.T) {
	r := rand.New(rand.NewSource(20))
	number := func() int64 { return edges()[r.Intn(len(edges()))] + r.Int63n(3) }
	for range 200000 {
		s := pid.Settings{Kp: number(), Ti: number(), Low: number(), High: number(), Reverse: r.Intn(2) == 0}
		x, dt := pid.State{Ready: r.Intn(2) == 0, Sum: number(), Rest: number()}, int(number())
		pid.Error(s, number(), number())
		pid.Proportional(s, number(), number())
		if next, output, e := pid.Control(s, x, number(), number(), dt); e != api.OK && (next != pid.State{} || output != 0) {
			t.Fatalf("Control(%v, %v, dt %d): %v, %d, %d", s, x, dt, next, output, e)
		}
		if next, e := pid.Track(s, number(), number(), number()); e != api.OK && next != (pid.State{}) {
			t.Fatalf("Track(%v): %v, %d", s, next, e)
		}
		if n, e := pid.Limit(number(), number(), number(), number(), dt); e != api.OK && n != 0 {
			t.Fatalf("Limit: %d, %d", n, e)
		}
		if n, e := pid.Settle(number(), number(), number(), number(), dt); e != api.OK && n != 0 {
			t.Fatalf("Settle: %d, %d", n, e)
		}
		c := samples()[r.Intn(2)]
		c.params[r.Intn(len(c.params))] = number()
		c.state[r.Intn(len(c.state))] = number()
		c.in[r.Intn(len(c.in))] = api.Value{Kind: r.Intn(4), N: number()}
		if next, output, e := pid.Step(c.name, c.params, c.state, c.in, dt); e != api.OK && (len(next) != 0 || output != (api.Value{})) {
			t.Fatalf("Step of %v, dt %d: %v, %v, %d", c, dt, next, output, e)
		}
	}
}
