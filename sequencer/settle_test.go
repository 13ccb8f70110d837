package sequencer_test

import (
	"math"
	"math/rand"
	"slices"
	"testing"

	"plenum/api"
	"plenum/sequencer"
)

func TestP21_2Settle(t *testing.T) {
	usual := integers(2, 80000, 30000, 60, 30)
	for _, c := range []struct {
		params, state []int64
		demand        int64
		dt            int
		last, number  int
	}{
		{usual, integers(0, 40), 90000, 20, 2, 4},
		{usual, integers(0, 0), 90000, 20, 2, 6},
		{usual, integers(0, -40), 90000, 20, 2, 6},
		{usual, integers(0, latest), 90000, 20, 2, 4},
		{usual, integers(0, 59), 90000, 1, 2, 61},
		{usual, integers(0, 0), 90000, 59, 2, 4},
		{usual, integers(0, 0), 90000, 60, 2, 2},
		{usual, integers(0, 0), 90000, day, 2, 2},
		{usual, integers(1, 0), 80001, 20, 2, 3},
		{usual, integers(1, 50), 80000, 20, 1, 0},
		{usual, integers(1, 50), 50000, 20, 1, 0},
		{usual, integers(1, -29), 30000, 20, 1, 0},
		{usual, integers(1, -29), 29999, 20, 0, 1},
		{usual, integers(0, -29), 29999, 20, 0, 0},
		{usual, integers(2, 0), 20000, 20, 0, 4},
		{usual, integers(2, 0), 20000, 30, 0, 2},
		{usual, integers(2, 50), 20000, 29, 0, 4},
		{usual, integers(2, -latest), 20000, 29, 0, 3},
		{usual, integers(2, 50), 90000, 20, 2, 0},
		{usual, integers(0, 50), 0, 20, 0, 0},
		{integers(15, 0, 0, 0, 0), integers(0, 0), 1, 1, 15, 15},
		{integers(15, 0, 0, 0, 0), integers(9, 0), -1, 1, 0, 9},
		{integers(15, 0, 0, 0, 0), integers(9, 0), 0, 1, 9, 0},
		{integers(15, 0, 0, day, 0), integers(0, 0), most, 1, 15, 15 * day},
		{integers(15, 0, 0, 0, day), integers(15, 0), -most, 1, 0, 15 * day},
		// Thresholds in the other order are no conflict outside of them, or at them.
		{integers(3, 30000, 80000, 0, 0), integers(1, 0), 30000, 1, 0, 1},
		{integers(3, 30000, 80000, 0, 0), integers(1, 0), 80000, 1, 3, 2},
		{integers(3, 30000, 80000, 0, 0), integers(1, 0), 20000, 1, 0, 1},
		{integers(3, 30000, 80000, 0, 0), integers(1, 0), 90000, 1, 3, 2},
		{integers(3, 30000, 30001, 0, 0), integers(1, 0), 30000, 1, 0, 1},
		{integers(3, 30000, 30001, 0, 0), integers(1, 0), 30001, 1, 3, 2},
	} {
		params, state := slices.Clone(c.params), slices.Clone(c.state)
		last, number, e := sequencer.Settle(params, state, c.demand, c.dt)
		if last != c.last || number != c.number || e != api.OK {
			t.Errorf("Settle of %v, %v with %d, dt %d: %d, %d, %d, not %d, %d", c.params, c.state, c.demand, c.dt, last, number, e, c.last, c.number)
		}
		if !slices.Equal(params, c.params) || !slices.Equal(state, c.state) {
			t.Errorf("Settle has changed its arguments")
		}
	}
}

// places returns the numbers of stages, or the steps, at the beginning and after each of many evaluations.
func places(t *testing.T, name string, params, state []int64, in []api.Value, dt, evaluations int) []int64 {
	t.Helper()
	list := integers(state[0])
	for range evaluations {
		next, _, e := sequencer.Step(name, params, state, in, dt)
		if e != api.OK {
			t.Fatalf("Step of %s %v, %v with %v, dt %d: %d", name, params, state, in, dt, e)
		}
		list, state = append(list, next[0]), next
	}
	return list
}

// With delays of a few seconds, many evaluations show what goes on for good.
func TestP21_2Steps(t *testing.T) {
	const evaluations = 70
	r := rand.New(rand.NewSource(212))
	for range 5000 {
		p := integers(1+r.Int63n(6), r.Int63n(5), r.Int63n(5), r.Int63n(10), r.Int63n(10))
		state := integers(r.Int63n(p[0]+1), r.Int63n(21)-10)
		x, dt := r.Int63n(7)-1, 1+r.Intn(4)
		last, number, e := sequencer.Settle(p, state, x, dt)
		if p[1] < x && x < p[2] {
			if last != 0 || number != 0 || e != api.ErrConflict {
				t.Fatalf("Settle of %v, %v with %d, dt %d: %d, %d, %d", p, state, x, dt, last, number, e)
			}
			continue
		}
		list := places(t, "stage", p, state, demand(x), dt, evaluations)
		want := evaluations
		for want > 0 && list[want-1] == list[evaluations] {
			want--
		}
		if last != int(list[evaluations]) || number != want || e != api.OK {
			t.Fatalf("Settle of %v, %v with %d, dt %d: %d, %d, %d, not %d, %d", p, state, x, dt, last, number, e, list[evaluations], want)
		}
	}
}

// resist tests that Settle gives an error.
func resist(t *testing.T, params, state []int64, demand int64, dt int, want api.Errno) {
	t.Helper()
	if last, number, e := sequencer.Settle(params, state, demand, dt); last != 0 || number != 0 || e != want {
		t.Errorf("Settle of %v, %v with %d, dt %d: %d, %d, %d, not %d", params, state, demand, dt, last, number, e, want)
	}
}

func TestP21_2Errors(t *testing.T) {
	c := samples()[0]
	for _, list := range append(lengths(c.params), samples()[1].params) {
		resist(t, list, c.state, 90000, 20, api.ErrInvalid)
	}
	for _, list := range outside("stage") {
		resist(t, list, c.state, 90000, 20, api.ErrRange)
	}
	for _, dt := range strangeTimes() {
		resist(t, c.params, c.state, 90000, dt, api.ErrInvalid)
	}
	for _, state := range impossible(c) {
		resist(t, c.params, state, 90000, 20, api.ErrState)
	}
	for _, n := range []int64{most + 1, -most - 1, math.MaxInt64, math.MinInt64} {
		resist(t, c.params, c.state, n, 20, api.ErrRange)
	}
	for _, state := range [][]int64{{0, 0}, {1, 5}, {2, 0}} {
		resist(t, integers(2, 30000, 80000, 0, 0), state, 50000, 20, api.ErrConflict)
		resist(t, integers(2, 30000, 80000, day, day), state, 30001, 20, api.ErrConflict)
		resist(t, integers(2, 30000, 80000, 0, day), state, 79999, 20, api.ErrConflict)
		resist(t, integers(2, -most, most, day, 0), state, 0, 1, api.ErrConflict)
	}
}

// Each error is named before those that follow it in the document.
func TestP21_2Order(t *testing.T) {
	reversed, wrong := integers(2, 30000, 80000, 0, 0), integers(-1, 0)
	resist(t, integers(0, 30000, 80000, 0), wrong, most+1, 0, api.ErrInvalid)
	resist(t, integers(0, 30000, 80000, 0, 0), wrong, most+1, 0, api.ErrRange)
	resist(t, integers(0, 30000, 80000, 0, 0), integers(0, 0), 50000, 0, api.ErrRange)
	resist(t, reversed, wrong, most+1, 0, api.ErrInvalid)
	resist(t, reversed, integers(0, 0), 50000, 0, api.ErrInvalid)
	resist(t, reversed, wrong, most+1, 20, api.ErrState)
	resist(t, reversed, wrong, 50000, 20, api.ErrState)
	resist(t, integers(2, most, most, 0, 0), integers(0, 0), most+1, 20, api.ErrRange)
}

func TestP21_3Duration(t *testing.T) {
	for _, c := range []struct {
		params []int64
		dt     int
		want   int
	}{
		{integers(3, 30), 20, 5},
		{integers(3, 0), 20, 3},
		{integers(3, 20), 20, 3},
		{integers(3, 21), 20, 5},
		{integers(3, 40), 20, 5},
		{integers(3, 41), 20, 7},
		{integers(1, 0), 1, 1},
		{integers(1, day), 1, 1},
		{integers(2, 7), 1, 8},
		{integers(15, 0), day, 15},
		{integers(15, day), day, 15},
		{integers(15, day), day - 1, 29},
		{integers(15, day), 1, 14*day + 1},
	} {
		params := slices.Clone(c.params)
		if n, e := sequencer.Duration(params, c.dt); n != c.want || e != api.OK || !slices.Equal(params, c.params) {
			t.Errorf("Duration of %v, dt %d: %d, %d, not %d", c.params, c.dt, n, e, c.want)
		}
	}
}

// The step count is reached in the evaluation that Duration names, and not before.
func TestP21_3Steps(t *testing.T) {
	r := rand.New(rand.NewSource(213))
	for range 2000 {
		p, dt := integers(1+r.Int63n(15), r.Int63n(20)), 1+r.Intn(25)
		n, e := sequencer.Duration(p, dt)
		if e != api.OK || n < 1 {
			t.Fatalf("Duration of %v, dt %d: %d, %d", p, dt, n, e)
		}
		if list := places(t, "steps", p, integers(0, 0), signals(1, 1), dt, n); list[n] != p[0] || list[n-1] == p[0] {
			t.Fatalf("Duration of %v, dt %d: %d, but the steps are %v", p, dt, n, list)
		}
	}
}

func TestP21_3Errors(t *testing.T) {
	fail := func(params []int64, dt int, want api.Errno) {
		t.Helper()
		if n, e := sequencer.Duration(params, dt); n != 0 || e != want {
			t.Errorf("Duration of %v, dt %d: %d, %d, not %d", params, dt, n, e, want)
		}
	}
	c := samples()[1]
	for _, list := range append(lengths(c.params), samples()[0].params) {
		fail(list, 20, api.ErrInvalid)
		fail(list, 0, api.ErrInvalid)
	}
	for _, list := range outside("steps") {
		fail(list, 20, api.ErrRange)
		fail(list, 0, api.ErrRange)
	}
	fail(integers(0), 20, api.ErrInvalid)
	for _, dt := range strangeTimes() {
		fail(c.params, dt, api.ErrInvalid)
	}
}

// moment is what an evaluation was given, and what it gave.
type moment struct {
	high, low   bool
	run, next   bool
	place, time int64
}

// Stages are added and taken away one by one, only if the demand was high or low in all evaluations of the delay; a demand between the thresholds changes nothing but the time.
func TestP21_4Stage(t *testing.T) {
	r := rand.New(rand.NewSource(214))
	changes := 0
	for range 2000 {
		down := r.Int63n(4)
		p := integers(1+r.Int63n(4), down+r.Int63n(3), down, r.Int63n(8), r.Int63n(8))
		dt, x := 1+r.Int63n(4), int64(0)
		past := []moment{{}}
		for range 60 {
			if r.Intn(5) == 0 {
				x = r.Int63n(9) - 1
			}
			before := past[len(past)-1]
			next, _, e := sequencer.Step("stage", p, integers(before.place, before.time), demand(x), int(dt))
			if e != api.OK {
				t.Fatalf("Step of %v: %d", p, e)
			}
			now := moment{high: x > p[1], low: x < p[2], place: next[0], time: next[1]}
			past = append(past, now)
			change, evaluations := now.place-before.place, 0
			for i := len(past) - 1; i > 0 && (change > 0 && past[i].high || change < 0 && past[i].low); i-- {
				evaluations++
			}
			delay := map[int64]int64{1: p[3], -1: p[4]}[change]
			switch {
			case change < -1 || change > 1 || now.place < 0 || now.place > p[0]:
				t.Fatalf("stage %v: %v", p, past)
			case !now.high && !now.low && (change != 0 || now.time != 0):
				t.Fatalf("stage %v: %v", p, past)
			case change != 0 && int64(evaluations)*dt < max(delay, 1):
				t.Fatalf("stage %v: %v", p, past)
			case change != 0:
				changes++
			}
		}
	}
	if changes < 1000 {
		t.Errorf("only %d stages were added or taken away", changes)
	}
}

// A demand that is high for ever ends with all stages, one that is low with none.
func TestP21_4Ever(t *testing.T) {
	r := rand.New(rand.NewSource(2142))
	for range 2000 {
		p, dt := integers(1+r.Int63n(15), 80000, 30000, r.Int63n(9), r.Int63n(9)), 1+r.Intn(9)
		state := integers(r.Int63n(p[0]+1), r.Int63n(19)-9)
		if high := places(t, "stage", p, state, demand(80001), dt, 150); high[150] != p[0] || !slices.IsSorted(high) {
			t.Fatalf("stage %v from %v: %v", p, state, high)
		}
		low := places(t, "stage", p, state, demand(29999), dt, 150)
		if slices.Reverse(low); low[0] != 0 || !slices.IsSorted(low) {
			t.Fatalf("stage %v from %v: %v", p, state, low)
		}
	}
}

// A sequence ends at once without go; every step but the last one lasts at least its time, and is left only with next.
func TestP21_4Steps(t *testing.T) {
	r := rand.New(rand.NewSource(2143))
	ends := 0
	for range 2000 {
		p, dt := integers(1+r.Int63n(6), r.Int63n(8)), 1+r.Int63n(4)
		state, lasted := integers(0, 0), int64(0)
		for range 60 {
			goes, hasNext := min(r.Int63n(40), 1), min(r.Int63n(3), 1)
			next, _, e := sequencer.Step("steps", p, state, signals(goes, hasNext), int(dt))
			if e != api.OK {
				t.Fatalf("Step of %v: %d", p, e)
			}
			change := next[0] - state[0]
			lasted += dt
			switch {
			case next[0] < 0 || next[0] > p[0] || change > 1:
				t.Fatalf("steps %v from %v: %v", p, state, next)
			case goes == 0 && !slices.Equal(next, integers(0, 0)):
				t.Fatalf("steps %v without go: %v", p, next)
			case goes == 1 && state[0] == 0 && next[0] != 1:
				t.Fatalf("steps %v from idle: %v", p, next)
			case goes == 1 && state[0] > 0 && (change < 0 || change > 0 && (hasNext == 0 || lasted < p[1])):
				t.Fatalf("steps %v from %v after %d seconds: %v", p, state, lasted, next)
			case goes == 1 && state[0] > 0 && state[0] < p[0] && hasNext == 1 && lasted >= p[1] && change == 0:
				t.Fatalf("steps %v stays at %v", p, state)
			case change > 0 && next[0] == p[0]:
				ends++
			}
			if change != 0 {
				lasted = 0
			}
			state = next
		}
	}
	if ends < 1000 {
		t.Errorf("only %d sequences came to their end", ends)
	}
}
