package sequencer_test

import (
	"math"
	"math/rand"
	"slices"
	"strings"
	"testing"

	"plenum/api"
	"plenum/block"
	"plenum/sequencer"
)

// The greatest numbers of arguments.
const (
	day    = api.DaySeconds
	most   = api.MaxAnalog
	latest = api.MaxInstant
)

// integers makes a list of numbers, demand the input of stage, and signals those of steps.
func integers(numbers ...int64) []int64 { return numbers }

func demand(n int64) []api.Value { return []api.Value{{Kind: api.Analog, N: n}} }

func signals(run, next int64) []api.Value {
	return []api.Value{{Kind: api.Binary, N: run}, {Kind: api.Binary, N: next}}
}

// unknown are names that no block of this layer has.
func unknown() []string {
	list := []string{"", "Stage", "stage ", " steps", "step", "stages", "out", "\x00", "\xff", strings.Repeat("stage", 10000)}
	for _, name := range block.Names() {
		if name != "stage" && name != "steps" {
			list = append(list, name)
		}
	}
	return list
}

// sample is what can be used with a block.
type sample struct {
	name          string
	params, state []int64
	in            []api.Value
}

func samples() []sample {
	return []sample{
		{"stage", integers(2, 80000, 30000, 60, 30), integers(0, 0), demand(50000)},
		{"steps", integers(3, 30), integers(0, 0), signals(1, 1)},
	}
}

// lengths are lists with other lengths than a list.
func lengths(list []int64) [][]int64 {
	return [][]int64{nil, {}, list[1:], append(slices.Clone(list), 0), make([]int64, 1000)}
}

// strangeTimes are no times between two evaluations.
func strangeTimes() []int {
	return []int{0, -1, day + 1, -day, math.MinInt, math.MaxInt, 1 << 32, 1<<32 + 1}
}

// outside are lists of parameters of which one is outside its range.
func outside(name string) [][]int64 {
	usual, bounds := integers(1, 0, 0, 0, 0), [][2]int64{{1, 15}, {-most, most}, {-most, most}, {0, day}, {0, day}}
	if name == "steps" {
		usual, bounds = integers(1, 0), [][2]int64{{1, 15}, {0, day}}
	}
	var lists [][]int64
	for i, b := range bounds {
		for _, n := range []int64{b[0] - 1, b[1] + 1, math.MinInt64, math.MaxInt64} {
			list := slices.Clone(usual)
			list[i] = n
			lists = append(lists, list)
		}
	}
	return lists
}

func TestP21_1Check(t *testing.T) {
	if sequencer.MaxStages != 15 || sequencer.MaxSteps != 15 || sequencer.StageState != 2 || sequencer.StepsState != 2 {
		t.Error("the constants are not those of the document")
	}
	for _, c := range []struct {
		name   string
		params []int64
		want   api.Errno
	}{
		{"stage", integers(2, 80000, 30000, 60, 30), api.OK},
		{"stage", integers(1, -most, -most, 0, 0), api.OK},
		{"stage", integers(15, most, most, day, day), api.OK},
		{"stage", integers(1, 5, 7, 0, 0), api.OK}, // the thresholds need not be in order
		{"stage", integers(1, most, -most, 0, 0), api.OK},
		{"stage", integers(1, -most, most, 0, 0), api.OK},
		{"steps", integers(1, 0), api.OK},
		{"steps", integers(15, day), api.OK},
		{"stage", integers(2, 30), api.ErrInvalid},
		{"steps", integers(2, 80000, 30000, 60, 30), api.ErrInvalid},
		{"stage", integers(0, 0, 0, 0), api.ErrInvalid}, // before what is outside its range
		{"steps", integers(16, 0, 0), api.ErrInvalid},
		{"steps", integers(-1), api.ErrInvalid},
		{"steps", integers(0, 30), api.ErrRange},
		{"stage", integers(2, 80000, 30000, -1, 30), api.ErrRange},
	} {
		params := slices.Clone(c.params)
		if e := sequencer.Check(c.name, params); e != c.want || !slices.Equal(params, c.params) {
			t.Errorf("Check of %s %v: %d, not %d", c.name, c.params, e, c.want)
		}
	}
	for _, name := range unknown() {
		for _, params := range [][]int64{nil, integers(3, 30), integers(2, 80000, 30000, 60, 30), integers(-1, -1)} {
			if e := sequencer.Check(name, params); e != api.ErrUnknown {
				t.Errorf("Check of %.20q: %d", name, e)
			}
		}
	}
}

func TestP21_1CheckAll(t *testing.T) {
	for _, c := range samples() {
		d, _ := block.Find(c.name)
		if e := sequencer.Check(c.name, c.params); e != api.OK {
			t.Errorf("Check of %s %v: %d", c.name, c.params, e)
		}
		for _, list := range lengths(c.params) {
			if e := sequencer.Check(c.name, list); e != api.ErrInvalid {
				t.Errorf("Check of %s with %d parameters: %d", c.name, len(list), e)
			}
		}
		for _, list := range outside(c.name) {
			if e := sequencer.Check(c.name, list); e != api.ErrRange {
				t.Errorf("Check of %s %v: %d", c.name, list, e)
			}
		}
		for i, b := range d.Params {
			for _, n := range []int64{b.Lo, b.Lo + 1, b.Hi - 1, b.Hi} {
				params := slices.Clone(c.params)
				params[i] = n
				if e := sequencer.Check(c.name, params); e != api.OK {
					t.Errorf("Check of %s %v: %d", c.name, params, e)
				}
			}
		}
	}
}

// step tests an evaluation of a block.
func step(t *testing.T, name string, params, state []int64, in []api.Value, dt int, want []int64) {
	t.Helper()
	p, s, values := slices.Clone(params), slices.Clone(state), slices.Clone(in)
	next, output, e := sequencer.Step(name, params, state, in, dt)
	if e != api.OK || !slices.Equal(next, want) || output != (api.Value{Kind: api.Multi, N: want[0] + 1}) {
		t.Errorf("Step of %s %v, %v with %v, dt %d: %v, %v, %d, not %v", name, params, state, in, dt, next, output, e, want)
		return
	}
	next[0], next[1] = -5, -5
	if !slices.Equal(params, p) || !slices.Equal(state, s) || !slices.Equal(in, values) {
		t.Errorf("Step of %s has changed its arguments, or returns a part of them", name)
	}
}

func TestP21_1Stage(t *testing.T) {
	usual := integers(2, 80000, 30000, 60, 30)
	for _, c := range []struct {
		params, state []int64
		demand        int64
		dt            int
		want          []int64
	}{
		{usual, integers(0, 0), 90000, 20, integers(0, 20)},
		{usual, integers(0, 20), 90000, 20, integers(0, 40)},
		{usual, integers(0, 40), 90000, 20, integers(1, 0)},
		{usual, integers(0, 40), 90000, 19, integers(0, 59)},
		{usual, integers(0, 40), 90000, day, integers(1, 0)}, // one stage only
		{usual, integers(0, latest), 90000, day, integers(1, 0)},
		{usual, integers(0, -latest), 90000, 20, integers(0, 20)},
		{usual, integers(1, -20), 90000, 20, integers(1, 20)},
		{usual, integers(2, 0), 90000, 20, integers(2, 0)},
		{usual, integers(2, 50), 90000, 20, integers(2, 0)},
		{usual, integers(2, -50), most, day, integers(2, 0)},
		{usual, integers(1, 40), 50000, 20, integers(1, 0)},
		{usual, integers(1, 40), 80000, 20, integers(1, 0)},
		{usual, integers(1, 40), 80001, 20, integers(2, 0)},
		{usual, integers(1, -20), 30000, 20, integers(1, 0)},
		{usual, integers(1, -20), 29999, 20, integers(0, 0)},
		{usual, integers(1, 10), 20000, 20, integers(1, -20)},
		{usual, integers(1, -20), 20000, 20, integers(0, 0)},
		{usual, integers(1, -20), 20000, 9, integers(1, -29)},
		{usual, integers(1, -20), 20000, 10, integers(0, 0)},
		{usual, integers(2, -latest), 20000, day, integers(1, 0)},
		{usual, integers(2, latest), -most, 29, integers(2, -29)},
		{usual, integers(0, -5), 20000, 20, integers(0, 0)},
		{usual, integers(0, 5), -most, day, integers(0, 0)},
		// Without delays every evaluation changes the stages.
		{integers(15, 0, 0, 0, 0), integers(0, 0), 1, 1, integers(1, 0)},
		{integers(15, 0, 0, 0, 0), integers(14, 0), 1, 1, integers(15, 0)},
		{integers(15, 0, 0, 0, 0), integers(15, 0), 1, 1, integers(15, 0)},
		{integers(15, 0, 0, 0, 0), integers(15, 0), 0, 1, integers(15, 0)},
		{integers(15, 0, 0, 0, 0), integers(15, 7), -1, 1, integers(14, 0)},
		{integers(1, 0, 0, day, day), integers(0, 0), 1, day, integers(1, 0)},
		{integers(1, 0, 0, day, day), integers(0, 0), 1, day - 1, integers(0, day-1)},
		{integers(1, 0, 0, day, day), integers(1, 0), -1, day, integers(0, 0)},
		{integers(1, 0, 0, day, day), integers(1, 0), -1, day - 1, integers(1, -day+1)},
		// A demand that is high and low adds stages before it takes them away.
		{integers(2, 30000, 80000, 0, 0), integers(1, 0), 50000, 1, integers(2, 0)},
		{integers(2, 30000, 80000, 0, 0), integers(2, 0), 50000, 1, integers(1, 0)},
		{integers(2, 30000, 80000, 9, 9), integers(1, -7), 50000, 1, integers(1, 1)},
		{integers(2, 30000, 80000, 9, 9), integers(2, 7), 50000, 1, integers(2, -1)},
		{integers(2, 30000, 80000, 9, 9), integers(0, 0), 20000, 1, integers(0, 0)},
		{integers(2, 30000, 80000, 9, 9), integers(2, 7), 90000, 1, integers(2, 0)},
		{integers(1, most, -most, 0, 0), integers(0, 7), most, 1, integers(0, 0)},
		{integers(1, -most, most, 0, 0), integers(0, 7), most, 1, integers(1, 0)},
	} {
		step(t, "stage", c.params, c.state, demand(c.demand), c.dt, c.want)
	}
}

func TestP21_1Steps(t *testing.T) {
	usual := integers(3, 30)
	for _, c := range []struct {
		params, state []int64
		run, next     int64
		dt            int
		want          []int64
	}{
		{usual, integers(0, 0), 1, 1, 20, integers(1, 0)},
		{usual, integers(0, 0), 1, 0, 20, integers(1, 0)},
		{usual, integers(0, 70), 1, 1, day, integers(1, 0)},
		{usual, integers(0, 70), 1, 0, 20, integers(1, 0)},
		{usual, integers(1, 0), 1, 1, 20, integers(1, 20)},
		{usual, integers(1, 20), 1, 1, 20, integers(2, 0)},
		{usual, integers(1, 20), 1, 1, 9, integers(1, 29)},
		{usual, integers(1, 20), 1, 1, 10, integers(2, 0)},
		{usual, integers(1, 20), 1, 0, 20, integers(1, 40)},
		{usual, integers(1, 40), 1, 1, 20, integers(2, 0)},
		{usual, integers(1, 20), 1, 1, day, integers(2, 0)}, // one step only
		{usual, integers(2, 20), 1, 1, 20, integers(3, 0)},
		{usual, integers(3, 0), 1, 1, 20, integers(3, 20)},
		{usual, integers(3, 20), 1, 1, 20, integers(3, 40)},
		{usual, integers(3, latest-20), 1, 1, 20, integers(3, latest)},
		{usual, integers(3, latest-19), 1, 1, 20, integers(3, latest)},
		{usual, integers(3, latest), 1, 0, day, integers(3, latest)},
		{usual, integers(1, latest-5), 1, 0, 6, integers(1, latest)},
		{usual, integers(1, latest), 1, 1, 6, integers(2, 0)},
		{usual, integers(3, 20), 0, 1, 20, integers(0, 0)},
		{usual, integers(1, 20), 0, 0, 20, integers(0, 0)},
		{usual, integers(0, 0), 0, 1, 20, integers(0, 0)},
		{usual, integers(0, latest), 0, 0, 20, integers(0, 0)},
		{integers(1, 0), integers(0, 0), 1, 1, 1, integers(1, 0)},
		{integers(1, 0), integers(1, 0), 1, 1, 1, integers(1, 1)},
		{integers(2, 0), integers(1, 0), 1, 1, 1, integers(2, 0)},
		{integers(2, 0), integers(1, 0), 1, 0, 1, integers(1, 1)},
		{integers(15, day), integers(14, 0), 1, 1, day, integers(15, 0)},
		{integers(15, day), integers(14, 0), 1, 1, day - 1, integers(14, day-1)},
	} {
		step(t, "steps", c.params, c.state, signals(c.run, c.next), c.dt, c.want)
	}
}

// staged is the definition of the block stage.
func staged(p, state []int64, x, dt int64) []int64 {
	s, time := state[0], state[1]
	if x > p[1] && s < p[0] {
		time = min(max(time, 0)+dt, latest)
		if time >= p[3] {
			return integers(s+1, 0)
		}
		return integers(s, time)
	}
	if x < p[2] && s > 0 {
		time = max(min(time, 0)-dt, -latest)
		if -time >= p[4] {
			return integers(s-1, 0)
		}
		return integers(s, time)
	}
	return integers(s, 0)
}

// stepped is the definition of the block steps.
func stepped(p, state []int64, run, next, dt int64) []int64 {
	s, time := state[0], state[1]
	if run == 0 {
		return integers(0, 0)
	}
	if s == 0 {
		return integers(1, 0)
	}
	time = min(time+dt, latest)
	if s < p[0] && next == 1 && time >= p[1] {
		return integers(s+1, 0)
	}
	return integers(s, time)
}

// pick returns a number from lo to hi, often one of the ends, or one near 0 or another place.
func pick(r *rand.Rand, lo, hi int64, places ...int64) int64 {
	near := append([]int64{lo, hi, 0}, places...)
	if r.Intn(3) == 0 {
		return lo + r.Int63n(hi-lo+1)
	}
	return min(max(near[r.Intn(len(near))]+r.Int63n(9)-4, lo), hi)
}

// stageParams returns parameters of stage.
func stageParams(r *rand.Rand) []int64 {
	up := pick(r, -most, most)
	return integers(pick(r, 1, 15), up, pick(r, -most, most, up), pick(r, 0, day), pick(r, 0, day))
}

func TestP21_1Definition(t *testing.T) {
	r := rand.New(rand.NewSource(211))
	for range 50000 {
		p := stageParams(r)
		state := integers(pick(r, 0, p[0]), pick(r, -latest, latest, p[3], -p[4]))
		x, dt := pick(r, -most, most, p[1], p[2]), pick(r, 1, day, p[3]-state[1], p[4]+state[1])
		step(t, "stage", p, state, demand(x), int(dt), staged(p, state, x, dt))
		p = integers(pick(r, 1, 15), pick(r, 0, day))
		state = integers(pick(r, 0, p[0]), pick(r, 0, latest, p[1]))
		run, next := min(r.Int63n(9), 1), r.Int63n(2)
		dt = pick(r, 1, day, p[1]-state[1])
		step(t, "steps", p, state, signals(run, next), int(dt), stepped(p, state, run, next, dt))
	}
}

// refuse tests that an evaluation gives an error.
func refuse(t *testing.T, name string, params, state []int64, in []api.Value, dt int, want api.Errno) {
	t.Helper()
	if next, output, e := sequencer.Step(name, params, state, in, dt); len(next) != 0 || output != (api.Value{}) || e != want {
		t.Errorf("Step of %.20q %v, %v with %v, dt %d: %v, %v, %d, not %d", name, params, state, in, dt, next, output, e, want)
	}
}

// misfits are lists of as many inputs as a block has, one of which does not fit.
func misfits(c sample) [][]api.Value {
	var lists [][]api.Value
	for i, good := range c.in {
		strange := []api.Value{{}, {N: 1}, {Kind: api.Multi, N: 1}, {Kind: 4, N: 1}, {Kind: -1}}
		numbers := []int64{2, -1, math.MaxInt64, math.MinInt64, 1<<32 + 1}
		if good.Kind == api.Analog {
			strange = append(strange, api.Value{Kind: api.Binary, N: 1}, api.Value{Kind: api.Binary})
			numbers = []int64{most + 1, -most - 1, math.MaxInt64, math.MinInt64}
		} else {
			strange = append(strange, api.Value{Kind: api.Analog, N: 1}, api.Value{Kind: api.Analog})
		}
		for _, n := range numbers {
			strange = append(strange, api.Value{Kind: good.Kind, N: n})
		}
		for _, v := range strange {
			in := slices.Clone(c.in)
			in[i] = v
			lists = append(lists, in)
		}
	}
	return lists
}

// impossible are states that a block cannot have with the parameters of its sample.
func impossible(c sample) [][]int64 {
	lists := append(lengths(c.state), integers(-1, 0), integers(c.params[0]+1, 0), integers(math.MaxInt64, 0), integers(math.MinInt64, 0), integers(0, latest+1), integers(1, -latest-1), integers(1, math.MinInt64), integers(1, math.MaxInt64))
	if c.name == "steps" {
		lists = append(lists, integers(0, -1), integers(1, -1), integers(3, -latest))
	}
	return lists
}

func TestP21_1Errors(t *testing.T) {
	for _, name := range unknown() {
		refuse(t, name, nil, nil, nil, 0, api.ErrUnknown)
		for _, c := range samples() {
			refuse(t, name, c.params, c.state, c.in, 1, api.ErrUnknown)
		}
	}
	for _, c := range samples() {
		for _, list := range lengths(c.params) {
			refuse(t, c.name, list, c.state, c.in, 1, api.ErrInvalid)
		}
		for _, list := range outside(c.name) {
			refuse(t, c.name, list, c.state, c.in, 1, api.ErrRange)
		}
		for _, dt := range strangeTimes() {
			refuse(t, c.name, c.params, c.state, c.in, dt, api.ErrInvalid)
		}
		for _, in := range [][]api.Value{nil, {}, c.in[1:], append(slices.Clone(c.in), c.in[0]), make([]api.Value, 1000)} {
			refuse(t, c.name, c.params, c.state, in, 1, api.ErrInvalid)
		}
		for _, in := range misfits(c) {
			refuse(t, c.name, c.params, c.state, in, 1, api.ErrType)
		}
		for _, state := range impossible(c) {
			refuse(t, c.name, c.params, state, c.in, 1, api.ErrState)
		}
	}
}

// Each error is named before those that follow it in the document.
func TestP21_1Order(t *testing.T) {
	for _, c := range samples() {
		bad, wrong := misfits(c)[0], integers(-1, 0)
		refuse(t, c.name, c.params[1:], wrong, bad, 0, api.ErrInvalid)
		refuse(t, c.name, outside(c.name)[0], nil, nil, 0, api.ErrRange)
		refuse(t, c.name, outside(c.name)[0], wrong, bad, 1, api.ErrRange)
		refuse(t, c.name, c.params, wrong, bad, 0, api.ErrInvalid)
		refuse(t, c.name, c.params, wrong, append(bad, bad[0]), 1, api.ErrInvalid)
		refuse(t, c.name, c.params, wrong, nil, 1, api.ErrInvalid)
		refuse(t, c.name, c.params, wrong, bad, 1, api.ErrType)
		refuse(t, c.name, c.params, nil, bad, 1, api.ErrType)
		refuse(t, c.name, c.params, wrong, c.in, 1, api.ErrState)
	}
}

// The ends of the ranges of numbers and states are possible.
func TestP21_1Ends(t *testing.T) {
	p := integers(2, 80000, 30000, 60, 30)
	for _, n := range []int64{-most, most} {
		for _, state := range [][]int64{{0, latest}, {0, -latest}, {2, latest}, {2, -latest}} {
			step(t, "stage", p, state, demand(n), day, staged(p, state, n, day))
		}
	}
	for _, state := range [][]int64{{0, 0}, {0, latest}, {3, 0}, {3, latest}} {
		step(t, "steps", integers(3, 30), state, signals(1, 0), day, stepped(integers(3, 30), state, 1, 0, day))
	}
}
