package timer_test

import (
	"math/rand"
	"slices"
	"testing"

	"plenum/api"
	"plenum/timer"
)

// bits makes inputs of blocks with one binary input.
func bits(digits string) [][]api.Value {
	var list [][]api.Value
	for _, digit := range digits {
		list = append(list, binary(int64(digit-'0')))
	}
	return list
}

// digits writes binary outputs.
func digits(outputs []api.Value) string {
	text := ""
	for _, v := range outputs {
		if v.Kind != api.Binary {
			return "not binary"
		}
		text += string(rune('0' + v.N))
	}
	return text
}

func TestP19_2Run(t *testing.T) {
	for _, c := range []struct {
		name   string
		params []int64
		in     string
		dt     int
		want   string
	}{
		{"edge", nil, "0110100", 1, "0100100"},
		{"edge", nil, "1101", 3600, "1001"},
		{"ondelay", integers(2), "01110", 1, "00010"},
		{"ondelay", integers(2), "01110", 2, "00110"},
		{"ondelay", integers(3), "111011111", 1, "000000011"},
		{"ondelay", integers(3), "11111", 2, "00111"},
		{"ondelay", integers(0), "0110", 1, "0110"},
		{"ondelay", integers(day), "1110", day, "0110"},
		{"offdelay", integers(2), "1000", 1, "1110"},
		{"offdelay", integers(2), "0001000100", 1, "0001110111"},
		{"offdelay", integers(2), "10000", 2, "11000"},
		{"offdelay", integers(3), "10000", 2, "11100"},
		{"offdelay", integers(2), "101000", 1, "111110"},
		{"offdelay", integers(0), "0110", 1, "0110"},
		{"pulse", integers(2), "11101", 1, "11001"},
		{"pulse", integers(2), "1000", 1, "1100"},
		{"pulse", integers(3), "1010000", 1, "1111100"},
		{"pulse", integers(3), "10000", 2, "11000"},
		{"pulse", integers(0), "0101", 1, "0000"},
		{"pulse", integers(1), "011011", 1, "010010"},
		{"minrun", integers(3, 2), "1000001", 1, "1110001"},
		{"minrun", integers(3, 2), "1000111", 1, "1110011"},
		{"minrun", integers(3, 2), "1000001", 60, "1000001"},
		{"minrun", integers(3, 2), "100001", 2, "110001"},
		{"minrun", integers(0, 3), "101111", 1, "100011"},
		{"minrun", integers(0, 0), "0110100", 1, "0110100"},
		{"minrun", integers(4, 0), "01000010", 1, "01111011"},
	} {
		in := bits(c.in)
		outputs, e := timer.Run(c.name, c.params, in, c.dt)
		if e != api.OK || digits(outputs) != c.want {
			t.Errorf("Run of %s %v of %s, dt %d: %s, %d, not %s", c.name, c.params, c.in, c.dt, digits(outputs), e, c.want)
		}
		if !slices.EqualFunc(in, bits(c.in), slices.Equal[[]api.Value]) {
			t.Errorf("Run of %s has changed its inputs", c.name)
		}
	}
}

func TestP19_2Others(t *testing.T) {
	var in [][]api.Value
	for _, n := range []int64{19000, 20001, 18000, 17999, 20000, 25000} {
		in = append(in, analog(n))
	}
	if outputs, e := timer.Run("hyst", integers(20000, 18000), in, 1); e != api.OK || digits(outputs) != "011001" {
		t.Errorf("Run of hyst: %v, %d", outputs, e)
	}
	in = nil
	for _, pair := range [][]int64{{0, 0}, {1, 0}, {0, 0}, {1, 0}, {1, 0}, {1, 1}, {1, 0}, {0, 1}, {1, 0}, {0, 0}} {
		in = append(in, binary(pair...))
	}
	if outputs, e := timer.Run("count", nil, in, 5); e != api.OK || !slices.Equal(outputs, analog(0, 1000, 1000, 2000, 2000, 0, 0, 0, 1000, 1000)) {
		t.Errorf("Run of count: %v, %d", outputs, e)
	}
	if outputs, e := timer.Run("latch", nil, in, 5); e != api.OK || digits(outputs) != "0111101011" {
		t.Errorf("Run of latch: %v, %d", outputs, e)
	}
}

// A run is the steps from the state at the beginning on.
func TestP19_2Steps(t *testing.T) {
	r := rand.New(rand.NewSource(192))
	for range 5000 {
		name := names()[r.Intn(8)]
		list, _ := few(name)
		params, dt := list[r.Intn(len(list))], 1+r.Intn(4)
		var in [][]api.Value
		for range r.Intn(20) {
			in = append(in, inputs(name)[r.Intn(len(inputs(name)))])
		}
		var want []api.Value
		state := zero(name)
		for _, values := range in {
			next, output, e := timer.Step(name, params, state, values, dt)
			if e != api.OK {
				t.Fatalf("Step of %s %v, %v with %v: %d", name, params, state, values, e)
			}
			state, want = next, append(want, output)
		}
		if outputs, e := timer.Run(name, params, in, dt); e != api.OK || !slices.Equal(outputs, want) {
			t.Fatalf("Run of %s %v of %v: %v, %d, not %v", name, params, in, outputs, e, want)
		}
	}
}

// Without inputs there are no steps, and no seconds between them.
func TestP19_2Empty(t *testing.T) {
	for _, name := range names() {
		for _, in := range [][][]api.Value{nil, {}} {
			for _, dt := range []int{1, day, 0, -1} {
				if outputs, e := timer.Run(name, usual(name), in, dt); len(outputs) != 0 || e != api.OK {
					t.Errorf("Run of %s: %v, %d", name, outputs, e)
				}
			}
			if outputs, e := timer.Run(name, integers(-1), in, 1); len(outputs) != 0 || e != api.ErrInvalid {
				t.Errorf("Run of %s: %v, %d", name, outputs, e)
			}
		}
	}
	for _, name := range unknown() {
		if outputs, e := timer.Run(name, nil, nil, 1); len(outputs) != 0 || e != api.ErrUnknown {
			t.Errorf("Run of %.20q: %v, %d", name, outputs, e)
		}
	}
}

// The first step with an error decides.
func TestP19_2Errors(t *testing.T) {
	for _, name := range names() {
		good, many := inputs(name)[0], append(slices.Clone(inputs(name)[0]), misfits(name)...)
		for _, c := range []struct {
			in   [][]api.Value
			want api.Errno
		}{
			{[][]api.Value{good, misfits(name), nil}, api.ErrType},
			{[][]api.Value{good, nil, misfits(name)}, api.ErrInvalid},
			{[][]api.Value{misfits(name), many, good}, api.ErrType},
			{[][]api.Value{many, misfits(name), good}, api.ErrInvalid},
			{[][]api.Value{good, good, good, misfits(name)}, api.ErrType},
			{[][]api.Value{good, good, good, {}}, api.ErrInvalid},
		} {
			if outputs, e := timer.Run(name, usual(name), c.in, 1); len(outputs) != 0 || e != c.want {
				t.Errorf("Run of %s of %v: %v, %d, not %d", name, c.in, outputs, e, c.want)
			}
			if outputs, e := timer.Run(name, usual(name), c.in, 0); len(outputs) != 0 || e != api.ErrInvalid {
				t.Errorf("Run of %s of %v: %v, %d", name, c.in, outputs, e)
			}
		}
	}
}

func TestP19_3Settle(t *testing.T) {
	for _, c := range []struct {
		name          string
		params, state []int64
		in            []api.Value
		want          int64
		number        int
	}{
		{"ondelay", integers(5), integers(0), binary(1), 1, 6},
		{"ondelay", integers(5), integers(4), binary(1), 1, 2},
		{"ondelay", integers(5), integers(6), binary(1), 1, 1},
		{"ondelay", integers(5), integers(6), binary(0), 0, 1},
		{"ondelay", integers(0), integers(0), binary(1), 1, 1},
		{"ondelay", integers(day), integers(0), binary(1), 1, day + 1},
		{"offdelay", integers(3), integers(-1), binary(0), 0, 4},
		{"offdelay", integers(3), integers(3), binary(0), 0, 1},
		{"offdelay", integers(3), integers(0), binary(0), 0, 1},
		{"offdelay", integers(3), integers(2), binary(1), 1, 1},
		{"offdelay", integers(day), integers(-1), binary(0), 0, day + 1},
		{"pulse", integers(3), integers(0, 0), binary(1), 0, 4},
		{"pulse", integers(3), integers(0, 2), binary(1), 0, 4},
		{"pulse", integers(3), integers(1, 2), binary(1), 0, 2},
		{"pulse", integers(3), integers(1, 2), binary(0), 0, 2},
		{"pulse", integers(0), integers(0, 0), binary(1), 0, 1},
		{"pulse", integers(day), integers(0, 0), binary(1), 0, day + 1},
		{"minrun", integers(4, 0), integers(1, 1), binary(0), 0, 4},
		{"minrun", integers(4, 0), integers(1, 0), binary(0), 0, 1},
		{"minrun", integers(4, 0), integers(1, 1), binary(1), 1, 1},
		{"minrun", integers(4, 2), integers(0, 1), binary(1), 1, 2},
		{"minrun", integers(day, 0), integers(1, 1), binary(0), 0, day},
		{"edge", nil, integers(0), binary(1), 0, 2},
		{"edge", nil, integers(1), binary(1), 0, 1},
		{"edge", nil, integers(0), binary(0), 0, 1},
		{"count", nil, integers(0, 7), binary(1, 0), 8000, 1},
		{"count", nil, integers(1, 7), binary(1, 0), 7000, 1},
		{"count", nil, integers(0, 7), binary(1, 1), 0, 1},
		{"latch", nil, integers(1), binary(0, 0), 1, 1},
		{"latch", nil, integers(1), binary(1, 1), 0, 1},
		{"hyst", integers(5, 3), integers(1), analog(4), 1, 1},
		{"hyst", integers(5, 3), integers(1), analog(2), 0, 1},
		{"hyst", integers(5, 3), integers(0), analog(6), 1, 1},
	} {
		state, in := slices.Clone(c.state), slices.Clone(c.in)
		output, number, e := timer.Settle(c.name, c.params, state, in)
		if want := (api.Value{Kind: outputKind(c.name), N: c.want}); output != want || number != c.number || e != api.OK {
			t.Errorf("Settle of %s %v, %v with %v: %v, %d, %d, not %v, %d", c.name, c.params, c.state, c.in, output, number, e, want, c.number)
		}
		if !slices.Equal(state, c.state) || !slices.Equal(in, c.in) {
			t.Errorf("Settle of %s has changed its arguments", c.name)
		}
	}
}

// With times of a few seconds, the outputs of many steps show what is for good.
func TestP19_3Steps(t *testing.T) {
	late := 0
	for _, name := range names() {
		list, states := few(name)
		for _, params := range list {
			for _, start := range states {
				if !possible(name, params, start) {
					continue
				}
				for _, in := range inputs(name) {
					var outputs []api.Value
					state := start
					for range 40 {
						next, output, e := timer.Step(name, params, state, in, 1)
						if e != api.OK {
							t.Fatalf("Step of %s %v, %v with %v: %d", name, params, state, in, e)
						}
						state, outputs = next, append(outputs, output)
					}
					last, number := outputs[39], 40
					for number > 1 && outputs[number-2] == last {
						number--
					}
					if got, n, e := timer.Settle(name, params, start, in); got != last || n != number || e != api.OK {
						t.Errorf("Settle of %s %v, %v with %v: %v, %d, %d, not %v, %d", name, params, start, in, got, n, e, last, number)
					}
					if number > 1 {
						late++
					}
				}
			}
		}
	}
	if late < 50 {
		t.Errorf("%d settle late", late)
	}
}

// history returns random inputs in which a bit often stays, as numbers and as inputs of a block.
func history(r *rand.Rand) ([]int64, [][]api.Value) {
	var numbers []int64
	var in [][]api.Value
	a, changes := r.Int63n(2), 2+r.Intn(5)
	for range r.Intn(60) {
		if r.Intn(changes) == 0 {
			a = 1 - a
		}
		numbers, in = append(numbers, a), append(in, binary(a))
	}
	return numbers, in
}

// run returns the numbers of the outputs of a run with steps of one second.
func run(t *testing.T, name string, params []int64, in [][]api.Value) []int64 {
	t.Helper()
	outputs, e := timer.Run(name, params, in, 1)
	if e != api.OK || len(outputs) != len(in) {
		t.Fatalf("Run of %s %v of %v: %v, %d", name, params, in, outputs, e)
	}
	var numbers []int64
	for _, v := range outputs {
		numbers = append(numbers, v.N)
	}
	return numbers
}

func TestP19_4Delays(t *testing.T) {
	r := rand.New(rand.NewSource(194))
	for range 5000 {
		a, in := history(r)
		time := r.Intn(6)
		late := run(t, "ondelay", integers(int64(time)), in)
		long := run(t, "offdelay", integers(int64(time)), in)
		for i := range a {
			recent := a[max(0, i-time) : i+1]
			if isLong := len(recent) == time+1 && slices.Min(recent) == 1; isLong != (late[i] == 1) {
				t.Fatalf("ondelay %d of %v: %v, wrong in step %d", time, a, late, i)
			}
			if slices.Max(recent) != long[i] {
				t.Fatalf("offdelay %d of %v: %v, wrong in step %d", time, a, long, i)
			}
		}
	}
}

func TestP19_4Minrun(t *testing.T) {
	r := rand.New(rand.NewSource(195))
	kept := 0
	for range 5000 {
		a, in := history(r)
		least := [2]int{r.Intn(6), r.Intn(6)} // of off and on
		outputs := run(t, "minrun", integers(int64(least[1]), int64(least[0])), in)
		output, lasted := int64(0), 100 // at the beginning it may go on at once
		for i := range a {
			if a[i] != output && lasted >= least[output] {
				output, lasted = a[i], 0
			}
			lasted++
			if outputs[i] != output {
				t.Fatalf("minrun %v of %v: %v, wrong in step %d", least, a, outputs, i)
			}
			if output != a[i] {
				kept++
			}
		}
	}
	if kept < 5000 {
		t.Errorf("%d steps are kept", kept)
	}
}

func TestP19_4Pulse(t *testing.T) {
	r := rand.New(rand.NewSource(196))
	for range 5000 {
		a, in := history(r)
		time := r.Intn(6)
		outputs, edges := run(t, "pulse", integers(int64(time)), in), run(t, "edge", nil, in)
		for i := range a {
			isNear := slices.Contains(edges[max(0, i-time+1):i+1], 1)
			if isNear != (outputs[i] == 1) {
				t.Fatalf("pulse %d of %v: %v, wrong in step %d", time, a, outputs, i)
			}
		}
	}
}

func TestP19_4Count(t *testing.T) {
	r := rand.New(rand.NewSource(197))
	for range 5000 {
		a, in := history(r)
		edges := run(t, "edge", nil, in)
		resets := make([]int64, len(a))
		var pairs [][]api.Value
		for i := range a {
			resets[i] = r.Int63n(10) / 9
			pairs = append(pairs, binary(a[i], resets[i]))
		}
		counts, latched := run(t, "count", nil, pairs), run(t, "latch", nil, pairs)
		count, isSet := int64(0), int64(0)
		for i := range a {
			if rises := a[i] == 1 && (i == 0 || a[i-1] == 0); rises != (edges[i] == 1) {
				t.Fatalf("edge of %v: %v, wrong in step %d", a, edges, i)
			}
			count += edges[i]
			isSet = max(isSet, a[i])
			if resets[i] == 1 {
				count, isSet = 0, 0
			}
			if counts[i] != 1000*count || latched[i] != isSet {
				t.Fatalf("count and latch of %v: %v, %v, wrong in step %d", pairs, counts, latched, i)
			}
		}
	}
}
