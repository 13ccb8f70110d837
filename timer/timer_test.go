package timer_test

import (
	"math"
	"math/rand"
	"slices"
	"strings"
	"testing"

	"plenum/api"
	"plenum/block"
	"plenum/timer"
)

// day is the greatest time.
const day = api.DaySeconds

// analog and binary make lists of values.
func analog(numbers ...int64) []api.Value { return values(api.Analog, numbers) }
func binary(numbers ...int64) []api.Value { return values(api.Binary, numbers) }

// values makes values of a kind.
func values(kind int, numbers []int64) []api.Value {
	var list []api.Value
	for _, n := range numbers {
		list = append(list, api.Value{Kind: kind, N: n})
	}
	return list
}

// integers makes a list of numbers.
func integers(numbers ...int64) []int64 { return numbers }

// names are the blocks of this layer.
func names() []string {
	return []string{"count", "edge", "hyst", "latch", "minrun", "offdelay", "ondelay", "pulse"}
}

// unknown are names that no block of this layer has.
func unknown() []string {
	list := []string{"", "Edge", "edge ", " edge", "edg", "edges", "pid", "rate", "stage", "steps", "out", "\x00", "\xff", strings.Repeat("edge", 10000)}
	for _, name := range block.Names() {
		if !slices.Contains(names(), name) {
			list = append(list, name)
		}
	}
	return list
}

// outputKind is the kind of the outputs of a block.
func outputKind(name string) int {
	if name == "count" {
		return api.Analog
	}
	return api.Binary
}

// move is a step with what it gives.
type move struct {
	name          string
	params, state []int64
	in            []api.Value
	dt            int
	next          []int64
	output        int64
}

// check tests steps.
func check(t *testing.T, list []move) {
	t.Helper()
	for i, m := range list {
		params, state, in := slices.Clone(m.params), slices.Clone(m.state), slices.Clone(m.in)
		next, output, e := timer.Step(m.name, params, state, in, m.dt)
		if want := (api.Value{Kind: outputKind(m.name), N: m.output}); e != api.OK || output != want || !slices.Equal(next, m.next) {
			t.Errorf("step %d of %s %v, %v with %v, dt %d: %v, %v, %d, not %v, %v", i, m.name, m.params, m.state, m.in, m.dt, next, output, e, m.next, want)
		}
		if !slices.Equal(params, m.params) || !slices.Equal(state, m.state) || !slices.Equal(in, m.in) {
			t.Errorf("step %d of %s has changed its arguments", i, m.name)
		}
	}
}

func TestP19_1Names(t *testing.T) {
	list := timer.Names()
	if !slices.Equal(list, names()) {
		t.Errorf("Names: %v", list)
	}
	list[0] = "x"
	if !slices.Equal(timer.Names(), names()) {
		t.Error("the results of Names share memory")
	}
}

func TestP19_1Bits(t *testing.T) {
	var list []move
	add := func(name string, state, in, next []int64, output int64) {
		for _, dt := range []int{1, 60, day} {
			list = append(list, move{name, nil, state, binary(in...), dt, next, output})
		}
	}
	add("edge", integers(0), integers(0), integers(0), 0)
	add("edge", integers(0), integers(1), integers(1), 1)
	add("edge", integers(1), integers(1), integers(1), 0)
	add("edge", integers(1), integers(0), integers(0), 0)
	for _, s := range []int64{0, 1} {
		add("latch", integers(s), integers(0, 0), integers(s), s)
		add("latch", integers(s), integers(1, 0), integers(1), 1)
		add("latch", integers(s), integers(0, 1), integers(0), 0)
		add("latch", integers(s), integers(1, 1), integers(0), 0)
	}
	for _, n := range []int64{0, 7, timer.MaxCount - 1, timer.MaxCount} {
		more := min(n+1, timer.MaxCount)
		add("count", integers(0, n), integers(0, 0), integers(0, n), 1000*n)
		add("count", integers(0, n), integers(1, 0), integers(1, more), 1000*more)
		add("count", integers(1, n), integers(1, 0), integers(1, n), 1000*n)
		add("count", integers(1, n), integers(0, 0), integers(0, n), 1000*n)
		for _, s := range []int64{0, 1} {
			add("count", integers(s, n), integers(0, 1), integers(0, 0), 0)
			add("count", integers(s, n), integers(1, 1), integers(1, 0), 0)
		}
	}
	check(t, list)
	if timer.MaxCount != 1000000000 {
		t.Errorf("MaxCount is %d", timer.MaxCount)
	}
}

func TestP19_1Hyst(t *testing.T) {
	const most = api.MaxAnalog
	var list []move
	add := func(high, low, a, whenOff, whenOn int64) {
		list = append(list,
			move{"hyst", integers(high, low), integers(0), analog(a), 1, integers(whenOff), whenOff},
			move{"hyst", integers(high, low), integers(1), analog(a), day, integers(whenOn), whenOn})
	}
	add(20000, 18000, 20001, 1, 1)
	add(20000, 18000, 20000, 0, 1)
	add(20000, 18000, 19000, 0, 1)
	add(20000, 18000, 18000, 0, 1)
	add(20000, 18000, 17999, 0, 0)
	add(-5, -6, -4, 1, 1)
	add(-5, -6, -5, 0, 1)
	add(-5, -6, -6, 0, 1)
	add(-5, -6, -7, 0, 0)
	add(20000, 18000, math.MaxInt64, 1, 1)
	add(20000, 18000, math.MinInt64, 0, 0)
	add(most, -most, most, 0, 1)
	add(most, -most, -most, 0, 1)
	// What is compared is the number itself, even if no analog value should have it.
	add(most, -most, most+1, 1, 1)
	add(most, -most, -most-1, 0, 0)
	check(t, list)
}

func TestP19_1Delays(t *testing.T) {
	var list []move
	add := func(name string, time, s, a int64, dt int, next, output int64) {
		list = append(list, move{name, integers(time), integers(s), binary(a), dt, integers(next), output})
	}
	for _, time := range []int64{0, 1, 5, day} {
		for _, s := range []int64{0, 1, time, time + 1} {
			for _, dt := range []int{1, 2, day} {
				add("ondelay", time, s, 0, dt, 0, 0)
			}
		}
	}
	add("ondelay", 0, 0, 1, 1, 1, 1)
	add("ondelay", 0, 1, 1, day, 1, 1)
	add("ondelay", 5, 0, 1, day, 1, 0)
	add("ondelay", 5, 1, 1, 1, 2, 0)
	add("ondelay", 5, 1, 1, 4, 5, 0)
	add("ondelay", 5, 1, 1, 5, 6, 1)
	add("ondelay", 5, 1, 1, 6, 6, 1)
	add("ondelay", 5, 5, 1, 1, 6, 1)
	add("ondelay", 5, 6, 1, day, 6, 1)
	add("ondelay", day, 1, 1, day-1, day, 0)
	add("ondelay", day, 1, 1, day, day+1, 1)
	add("ondelay", day, day+1, 1, day, day+1, 1)
	for _, time := range []int64{0, 1, 5, day} {
		for _, s := range []int64{-1, 0, time} {
			for _, dt := range []int{1, 2, day} {
				add("offdelay", time, s, 1, dt, -1, 1)
			}
		}
		add("offdelay", time, 0, 0, 1, 0, 0)
	}
	add("offdelay", 0, -1, 0, 1, 0, 0)
	add("offdelay", 1, -1, 0, day, 1, 1)
	add("offdelay", 1, 1, 0, 1, 0, 0)
	add("offdelay", 5, -1, 0, day, 1, 1)
	add("offdelay", 5, 1, 0, 1, 2, 1)
	add("offdelay", 5, 1, 0, 4, 5, 1)
	add("offdelay", 5, 1, 0, 5, 0, 0)
	add("offdelay", 5, 5, 0, 1, 0, 0)
	add("offdelay", day, 1, 0, day-1, day, 1)
	add("offdelay", day, 1, 0, day, 0, 0)
	check(t, list)
}

func TestP19_1Pulse(t *testing.T) {
	var list []move
	add := func(time int64, state []int64, a int64, dt int, next []int64, output int64) {
		list = append(list, move{"pulse", integers(time), state, binary(a), dt, next, output})
	}
	add(0, integers(0, 0), 1, 1, integers(1, 0), 0)
	add(0, integers(1, 0), 0, 1, integers(0, 0), 0)
	add(5, integers(0, 0), 0, 1, integers(0, 0), 0)
	add(5, integers(1, 0), 1, 1, integers(1, 0), 0)
	add(5, integers(0, 0), 1, day, integers(1, 1), 1)
	add(5, integers(1, 1), 1, 1, integers(1, 2), 1)
	add(5, integers(1, 1), 0, 4, integers(0, 5), 1)
	add(5, integers(1, 1), 1, 5, integers(1, 0), 0)
	add(5, integers(0, 5), 0, 1, integers(0, 0), 0)
	add(5, integers(0, 5), 1, day, integers(1, 1), 1)
	add(5, integers(0, 3), 1, 1, integers(1, 1), 1)
	add(day, integers(1, 1), 1, day-1, integers(1, day), 1)
	add(day, integers(1, 1), 1, day, integers(1, 0), 0)
	check(t, list)
}

func TestP19_1Minrun(t *testing.T) {
	var list []move
	add := func(on, off int64, state []int64, a int64, dt int, next []int64) {
		list = append(list, move{"minrun", integers(on, off), state, binary(a), dt, next, next[0]})
	}
	add(3, 2, integers(0, 0), 0, 1, integers(0, 0))
	add(3, 2, integers(0, 0), 1, 1, integers(1, 1))
	add(3, 2, integers(1, 1), 1, 1, integers(1, 2))
	add(3, 2, integers(1, 1), 0, 2, integers(1, 3))
	add(3, 2, integers(1, 1), 1, 3, integers(1, 0))
	add(3, 2, integers(1, 1), 0, 3, integers(0, 1))
	add(3, 2, integers(1, 3), 0, 1, integers(0, 1))
	add(3, 2, integers(1, 0), 1, 1, integers(1, 0))
	add(3, 2, integers(1, 0), 0, day, integers(0, 1))
	add(3, 2, integers(0, 1), 1, 1, integers(0, 2))
	add(3, 2, integers(0, 2), 0, 1, integers(0, 0))
	add(3, 2, integers(0, 1), 1, 2, integers(1, 1))
	add(3, 0, integers(1, 3), 0, 1, integers(0, 0))
	add(0, 2, integers(0, 2), 1, 1, integers(1, 0))
	add(0, 2, integers(1, 0), 0, 1, integers(0, 1))
	add(0, 0, integers(1, 0), 0, 1, integers(0, 0))
	add(day, 0, integers(1, 1), 0, day-1, integers(1, day))
	add(day, 0, integers(1, 1), 0, day, integers(0, 0))
	check(t, list)
}

// few are params and the numbers of states to try with each block.
func few(name string) (params, states [][]int64) {
	var times, ones, pairs [][]int64
	for a := int64(-2); a <= 6; a++ {
		ones = append(ones, integers(a))
		for b := int64(-2); b <= 6; b++ {
			pairs = append(pairs, integers(a, b))
		}
	}
	for time := range int64(5) {
		times = append(times, integers(time))
	}
	none := [][]int64{nil}
	switch name {
	case "count":
		return none, append(pairs, integers(0, timer.MaxCount), integers(1, timer.MaxCount-1), integers(0, timer.MaxCount+1))
	case "hyst":
		return [][]int64{{2, -1}, {3, 2}}, ones
	case "minrun":
		for on := range int64(4) {
			for off := range int64(4) {
				params = append(params, integers(on, off))
			}
		}
		return params, pairs
	case "offdelay", "ondelay":
		return times, ones
	case "pulse":
		return times, pairs
	}
	return none, ones
}

// inputs are lists of inputs for each block.
func inputs(name string) [][]api.Value {
	switch name {
	case "count", "latch":
		return [][]api.Value{binary(0, 0), binary(0, 1), binary(1, 0), binary(1, 1)}
	case "hyst":
		var list [][]api.Value
		for a := int64(-3); a <= 4; a++ {
			list = append(list, analog(a))
		}
		return list
	}
	return [][]api.Value{binary(0), binary(1)}
}

// within reports whether n is from lo to hi.
func within(n, lo, hi int64) bool { return lo <= n && n <= hi }

// possible reports whether a state of the right length is possible, as the document says it.
func possible(name string, params, s []int64) bool {
	switch name {
	case "count":
		return within(s[0], 0, 1) && within(s[1], 0, timer.MaxCount)
	case "minrun":
		return s[0] == 1 && within(s[1], 0, params[0]) || s[0] == 0 && within(s[1], 0, params[1])
	case "offdelay":
		return within(s[0], -1, params[0])
	case "ondelay":
		return within(s[0], 0, params[0]+1)
	case "pulse":
		return within(s[0], 0, 1) && within(s[1], 0, params[0])
	}
	return within(s[0], 0, 1)
}

// if1 is 1 if a condition holds, otherwise 0.
func if1(holds bool) int64 {
	if holds {
		return 1
	}
	return 0
}

// defined returns the new state and the output of the blocks with times, in the words of the document: e is -1 if there is none.
func defined(name string, params, s []int64, a, dt int64) ([]int64, int64) {
	time, e, on := params[0], int64(-1), a == 1
	switch name {
	case "ondelay":
		if !on {
			return integers(0), 0
		}
		if e = 0; s[0] != 0 {
			e = min(s[0]-1+dt, time)
		}
		return integers(e + 1), if1(e == time)
	case "offdelay":
		if on {
			return integers(-1), 1
		}
		if s[0] == 0 {
			return integers(0), 0
		}
		if e = 0; s[0] != -1 {
			e = s[0] - 1 + dt
		}
		return integers((e + 1) * if1(e < time)), if1(e < time)
	case "pulse":
		if on && s[0] == 0 {
			e = 0
		} else if s[1] != 0 {
			e = s[1] - 1 + dt
		}
		lasts := if1(e >= 0 && e < time)
		return integers(a, (e+1)*lasts), lasts
	}
	least := []int64{params[1], params[0]}
	if s[1] != 0 {
		e = s[1] - 1 + dt
	}
	if a == s[0] || s[1] != 0 && e < least[s[0]] {
		if s[1] == 0 || e >= least[s[0]] {
			return integers(s[0], 0), s[0]
		}
		return integers(s[0], e+1), s[0]
	}
	return integers(a, if1(least[a] != 0)), a
}

func TestP19_1Definitions(t *testing.T) {
	var list []move
	for _, name := range []string{"minrun", "offdelay", "ondelay", "pulse"} {
		params, states := few(name)
		for _, p := range params {
			for _, s := range states {
				for dt := 1; dt < 8 && possible(name, p, s); dt++ {
					for a := range int64(2) {
						next, output := defined(name, p, s, a, int64(dt))
						list = append(list, move{name, p, s, binary(a), dt, next, output})
					}
				}
			}
		}
	}
	check(t, list)
}

// Every step from a state that is possible gives one that is, and every other state is refused.
func TestP19_1States(t *testing.T) {
	for _, name := range names() {
		list, states := few(name)
		taken, refused := 0, 0
		for _, params := range list {
			for _, state := range states {
				for _, in := range inputs(name) {
					for _, dt := range []int{1, 2, 3, 7, day} {
						next, output, e := timer.Step(name, params, state, in, dt)
						if !possible(name, params, state) {
							refused++
							if len(next) != 0 || output != (api.Value{}) || e != api.ErrInvalid {
								t.Errorf("%s %v, %v: %v, %v, %d", name, params, state, next, output, e)
							}
							continue
						}
						taken++
						if e != api.OK || len(next) != len(state) || !possible(name, params, next) || output.Kind != outputKind(name) {
							t.Errorf("%s %v, %v with %v, dt %d: %v, %v, %d", name, params, state, in, dt, next, output, e)
						}
					}
				}
			}
		}
		if taken == 0 || refused == 0 {
			t.Errorf("%s: %d states are possible, %d are not", name, taken, refused)
		}
	}
}

// usual are params with which a block can be used.
func usual(name string) []int64 {
	switch name {
	case "hyst":
		return integers(20000, 18000)
	case "minrun":
		return integers(3, 2)
	case "offdelay", "ondelay", "pulse":
		return integers(5)
	}
	return nil
}

// zero is the state of a block at the beginning.
func zero(name string) []int64 {
	d, _ := block.Find(name)
	return make([]int64, d.State)
}

// refuse tests that Step, Settle and Run (from the beginning, where the state is that) give an error.
func refuse(t *testing.T, name string, params, state []int64, in []api.Value, dt int, want api.Errno) {
	t.Helper()
	if next, output, e := timer.Step(name, params, state, in, dt); len(next) != 0 || output != (api.Value{}) || e != want {
		t.Errorf("Step of %.20q %v, %v with %v, dt %d: %v, %v, %d, not %d", name, params, state, in, dt, next, output, e, want)
	}
	if dt == 1 {
		if output, number, e := timer.Settle(name, params, state, in); output != (api.Value{}) || number != 0 || e != want {
			t.Errorf("Settle of %.20q %v, %v with %v: %v, %d, %d, not %d", name, params, state, in, output, number, e, want)
		}
	}
	if slices.Equal(state, zero(name)) || want == api.ErrUnknown {
		if list, e := timer.Run(name, params, [][]api.Value{in, in}, dt); len(list) != 0 || e != want {
			t.Errorf("Run of %.20q %v with %v, dt %d: %v, %d, not %d", name, params, in, dt, list, e, want)
		}
	}
}

func TestP19_1Unknown(t *testing.T) {
	for _, name := range unknown() {
		refuse(t, name, nil, nil, nil, 1, api.ErrUnknown)
		refuse(t, name, integers(5), integers(0), binary(1), 1, api.ErrUnknown)
		refuse(t, name, integers(-1), integers(9, 9, 9), binary(2), 0, api.ErrUnknown)
	}
}

// misfits are as many inputs as a block has, none of which fits.
func misfits(name string) []api.Value { return values(api.Multi, make([]int64, len(inputs(name)[0]))) }

func TestP19_1Params(t *testing.T) {
	wrong := map[string][][]int64{
		"count":    {{0}},
		"edge":     {{0}, {0, 0}},
		"hyst":     {nil, {1000}, {1000, 0, 0}, {5, 5}, {5, 6}, {-1, 1}, {api.MaxAnalog + 1, 0}, {0, -api.MaxAnalog - 1}, {math.MaxInt64, math.MinInt64}},
		"latch":    {{0}},
		"minrun":   {nil, {3}, {3, 2, 1}, {-1, 0}, {0, -1}, {day + 1, 0}, {0, day + 1}, {math.MinInt64, math.MaxInt64}},
		"offdelay": {nil, {5, 5}, {-1}, {day + 1}, {math.MaxInt64}, {math.MinInt64}},
		"ondelay":  {nil, {5, 5}, {-1}, {day + 1}, {math.MaxInt64}, {math.MinInt64}},
		"pulse":    {nil, {5, 5}, {-1}, {day + 1}, {math.MaxInt64}, {math.MinInt64}},
	}
	for _, name := range names() {
		for _, params := range wrong[name] {
			refuse(t, name, params, zero(name), inputs(name)[0], 1, api.ErrInvalid)
			refuse(t, name, params, zero(name), misfits(name), 1, api.ErrInvalid)
			refuse(t, name, params, nil, analog(1, 2, 3), 0, api.ErrInvalid)
		}
		if len(wrong[name]) == 0 {
			t.Errorf("%s has no wrong params", name)
		}
	}
}

func TestP19_1WrongStates(t *testing.T) {
	wrong := map[string][][]int64{
		"count":    {{-1, 0}, {2, 0}, {0, -1}, {1, -1}, {0, timer.MaxCount + 1}, {1, math.MaxInt64}, {math.MinInt64, 0}},
		"edge":     {{-1}, {2}, {math.MaxInt64}, {math.MinInt64}},
		"hyst":     {{-1}, {2}, {math.MaxInt64}, {math.MinInt64}},
		"latch":    {{-1}, {2}, {math.MaxInt64}, {math.MinInt64}},
		"minrun":   {{-1, 0}, {2, 0}, {0, -1}, {1, -1}, {0, 3}, {1, 4}, {math.MaxInt64, 3}, {1, math.MaxInt64}, {0, math.MinInt64}},
		"offdelay": {{-2}, {6}, {math.MaxInt64}, {math.MinInt64}},
		"ondelay":  {{-1}, {7}, {math.MaxInt64}, {math.MinInt64}},
		"pulse":    {{-1, 0}, {2, 0}, {0, -1}, {0, 6}, {1, 6}, {1, math.MaxInt64}, {math.MinInt64, 1}},
	}
	for _, name := range names() {
		start := zero(name)
		for _, state := range append(wrong[name], nil, start[1:], append(start, 0), make([]int64, 1000)) {
			refuse(t, name, usual(name), state, inputs(name)[0], 1, api.ErrInvalid)
			refuse(t, name, usual(name), state, misfits(name), 1, api.ErrInvalid)
		}
		if len(wrong[name]) == 0 {
			t.Errorf("%s has no wrong states", name)
		}
	}
}

func TestP19_1Times(t *testing.T) {
	for _, name := range names() {
		for _, dt := range []int{0, -1, day + 1, math.MaxInt, math.MinInt, 1<<32 + 1} {
			refuse(t, name, usual(name), zero(name), inputs(name)[0], dt, api.ErrInvalid)
			refuse(t, name, usual(name), zero(name), misfits(name), dt, api.ErrInvalid)
		}
	}
}

func TestP19_1Inputs(t *testing.T) {
	for _, name := range names() {
		good := inputs(name)[0]
		for _, in := range [][]api.Value{nil, good[1:], append(slices.Clone(good), good[0]), misfits(name)[1:], append(misfits(name), good[0]), make([]api.Value, 1000)} {
			refuse(t, name, usual(name), zero(name), in, 1, api.ErrInvalid)
		}
		strange := append(values(api.Multi, integers(0, 1)), api.Value{}, api.Value{N: 1}, api.Value{Kind: 4, N: 1}, api.Value{Kind: -1})
		if name == "hyst" {
			strange = append(strange, binary(0, 1)...)
		} else {
			strange = append(strange, analog(0, 1)...)
			strange = append(strange, binary(2, -1, math.MaxInt64, math.MinInt64, 1<<32+1)...)
		}
		for _, v := range strange {
			for i := range good {
				in := slices.Clone(good)
				in[i] = v
				refuse(t, name, usual(name), zero(name), in, 1, api.ErrType)
				refuse(t, name, usual(name), zero(name), in, day, api.ErrType)
			}
		}
	}
}

func TestP19_1Memory(t *testing.T) {
	for _, name := range names() {
		for _, in := range inputs(name) {
			state := zero(name)
			first, _, _ := timer.Step(name, usual(name), state, in, 1)
			second, _, _ := timer.Step(name, usual(name), state, in, 1)
			kept := slices.Clone(second)
			for i := range first {
				first[i] = -7
			}
			if !slices.Equal(state, zero(name)) || !slices.Equal(second, kept) {
				t.Errorf("the states of %s share memory", name)
			}
			// A state does not change after the call either.
			state[0] = 1
			third, _, _ := timer.Step(name, usual(name), zero(name), in, 1)
			if !slices.Equal(third, second) {
				t.Errorf("%s keeps a state", name)
			}
		}
	}
}

// randomNumber returns a number that is often one of the edges.
func randomNumber(r *rand.Rand) int64 {
	edges := []int64{-2, -1, 0, 1, 2, 5, day, day + 1, timer.MaxCount, timer.MaxCount + 1, api.MaxAnalog, -api.MaxAnalog, math.MaxInt64, math.MinInt64}
	if r.Intn(4) == 0 {
		return int64(r.Uint64())
	}
	return edges[r.Intn(len(edges))]
}

// randomList returns a few random numbers.
func randomList(r *rand.Rand) []int64 {
	var list []int64
	for range r.Intn(4) {
		list = append(list, randomNumber(r))
	}
	return list
}

func TestP1(t *testing.T) {
	r := rand.New(rand.NewSource(19))
	good := 0
	for range 200000 {
		name := names()[r.Intn(8)]
		if r.Intn(10) == 0 {
			name = unknown()[r.Intn(len(unknown()))]
		}
		params, state, in, dt := usual(name), zero(name), slices.Clone(inputs(name)[0]), 1
		for range r.Intn(3) {
			switch r.Intn(4) {
			case 0:
				params = randomList(r)
			case 1:
				state = randomList(r)
			case 2:
				in[r.Intn(len(in))] = api.Value{Kind: r.Intn(4), N: randomNumber(r)}
			case 3:
				dt = int(randomNumber(r))
			}
		}
		next, output, e := timer.Step(name, params, state, in, dt)
		if e != api.OK && (len(next) != 0 || output != (api.Value{})) {
			t.Fatalf("Step of %.20q %v, %v with %v, dt %d: %v, %v, %d", name, params, state, in, dt, next, output, e)
		}
		if e == api.OK {
			good++
		}
		list, e := timer.Run(name, params, [][]api.Value{in, nil, in}, dt)
		if e == api.OK || len(list) != 0 {
			t.Fatalf("Run of %.20q %v: %v, %d", name, params, list, e)
		}
		if slices.Contains(params, day) && r.Intn(50) != 0 {
			continue // it may settle late
		}
		output, number, e := timer.Settle(name, params, state, in)
		if e != api.OK && (number != 0 || output != (api.Value{})) || e == api.OK && number < 1 {
			t.Fatalf("Settle of %.20q %v, %v with %v: %v, %d, %d", name, params, state, in, output, number, e)
		}
	}
	if good < 50000 || good > 150000 {
		t.Errorf("%d of 200000 steps are good", good)
	}
}
