package minimum_test

import (
	"math"
	"math/rand"
	"slices"
	"testing"

	"plenum/api"
	"plenum/minimum"
)

// on and off are the binary values.
func on() api.Value  { return api.Value{Kind: api.Binary, N: 1} }
func off() api.Value { return api.Value{Kind: api.Binary} }

// value makes values, driven states, ask requests at instants.
func value(kind int, n int64) api.Value { return api.Value{Kind: kind, N: n} }

func driven(v api.Value, changed int) api.Driven { return api.Driven{Value: v, Changed: changed} }

func ask(at, level int, v api.Value) minimum.Ask {
	return minimum.Ask{At: at, Request: api.Request{Level: level, Value: v}}
}

// fan is a binary output.
func fan() api.Point {
	return api.Point{Name: "fan", Kind: api.Binary, Role: api.Output, MinOn: 60, MinOff: 30}
}

// others are points that have no minimum times, whatever their fields are.
func others() []api.Point {
	var list []api.Point
	for _, kind := range []int{api.Null, api.Analog, api.Binary, api.Multi, 4, -1} {
		for _, role := range []int{0, api.Input, api.Output, api.Held, 4, -1} {
			if kind != api.Binary || role != api.Output {
				list = append(list, api.Point{Kind: kind, Role: role, MinOn: 60, MinOff: 30})
			}
		}
	}
	return list
}

func TestP14_1Check(t *testing.T) {
	good := []int{0, 1, 30, 86399, 86400}
	bad := []int{-1, 86401, math.MaxInt, math.MinInt}
	for _, p := range append(others(), fan()) {
		binary := p.Kind == api.Binary && p.Role == api.Output
		for _, a := range append(good, bad...) {
			for _, b := range append(good, bad...) {
				want := api.OK
				if slices.Contains(bad, a) || slices.Contains(bad, b) {
					want = api.ErrRange
				} else if !binary && (a != 0 || b != 0) {
					want = api.ErrType
				}
				p.MinOn, p.MinOff = a, b
				if e := minimum.Check(p); e != want {
					t.Errorf("Check(%v): %d, not %d", p, e, want)
				}
			}
		}
	}
	if e := minimum.Check(api.Point{}); e != api.OK {
		t.Errorf("Check: %d", e)
	}
}

func TestP14_2Held(t *testing.T) {
	for _, c := range []struct {
		v    api.Value
		time int
	}{
		{on(), 60}, {off(), 30}, {value(api.Binary, 2), 0}, {value(api.Binary, -1), 0}, {value(api.Analog, 1), 0}, {value(api.Analog, 0), 0}, {value(api.Multi, 1), 0}, {value(api.Null, 0), 0}, {value(api.Null, 1), 0}, {value(4, 1), 0},
	} {
		for _, changed := range []int{0, 100, -100, 5000000000, api.MaxInstant, -api.MaxInstant} {
			o, until := driven(c.v, changed), changed+c.time
			if got := minimum.Until(fan(), o); got != until {
				t.Errorf("Until(%v): %d, not %d", o, got, until)
			}
			for _, now := range []int{changed - 100, changed - 1, changed, changed + 1, changed + 29, changed + 30, changed + 59, changed + 60, changed + 100} {
				if got := minimum.Held(fan(), o, now); got != (now < until) {
					t.Errorf("Held(%v) at %d: %t", o, now, got)
				}
			}
		}
	}
}

// Only the value of a binary output is held.
func TestP14_2Others(t *testing.T) {
	for _, p := range others() {
		for _, v := range []api.Value{on(), off(), value(p.Kind, 0), value(p.Kind, 1)} {
			o := driven(v, 100)
			if minimum.Until(p, o) != 100 || minimum.Held(p, o, 100) || minimum.Held(p, o, 101) || !minimum.Held(p, o, 99) {
				t.Errorf("%v of %v is held", v, p)
			}
		}
	}
}

// Minimum times that are not allowed are computed with as they are.
func TestP14_2Times(t *testing.T) {
	for _, time := range []int{0, 1, -1, 86400, 86401, api.MaxInstant, -api.MaxInstant} {
		p := fan()
		p.MinOn, p.MinOff = time, -time
		for _, c := range []struct {
			v     api.Value
			until int
		}{{on(), 1000 + time}, {off(), 1000 - time}} {
			o := driven(c.v, 1000)
			if got := minimum.Until(p, o); got != c.until || !minimum.Held(p, o, c.until-1) || minimum.Held(p, o, c.until) {
				t.Errorf("Until(%v) with %d: %d, not %d", o, time, got, c.until)
			}
		}
	}
}

// check tests Value, Next and Replay with a request that has no errors.
func check(t *testing.T, p api.Point, o api.Driven, a minimum.Ask, want api.Driven) {
	t.Helper()
	if v, e := minimum.Value(p, o, a.Request, a.At); v != want.Value || e != api.OK {
		t.Errorf("Value(%v, %v): %v, %d, not %v", o, a, v, e, want.Value)
	}
	if next, e := minimum.Next(p, o, a.Request, a.At); next != want || e != api.OK {
		t.Errorf("Next(%v, %v): %v, %d, not %v", o, a, next, e, want)
	}
	if l, e := minimum.Replay(p, o, []minimum.Ask{a}); !slices.Equal(l, []api.Driven{want}) || e != api.OK {
		t.Errorf("Replay(%v, %v): %v, %d, not %v", o, a, l, e, want)
	}
}

func TestP14_3Next(t *testing.T) {
	for level := 1; level <= 17; level++ {
		for now := 100; now < 220; now++ {
			for _, c := range []struct {
				old, next api.Value
				time      int
			}{{on(), off(), 60}, {off(), on(), 30}, {on(), on(), 60}, {off(), off(), 30}} {
				want := driven(c.old, 100)
				if (level <= 5 || now >= 100+c.time) && c.old != c.next {
					want = driven(c.next, now)
				}
				check(t, fan(), driven(c.old, 100), ask(now, level, c.next), want)
			}
		}
	}
	// Instants at the limits.
	for _, at := range []int{-api.MaxInstant, 0, api.MaxInstant - 60} {
		check(t, fan(), driven(on(), at), ask(at+59, 6, off()), driven(on(), at))
		check(t, fan(), driven(on(), at), ask(at+60, 6, off()), driven(off(), at+60))
		check(t, fan(), driven(on(), at), ask(at, 5, off()), driven(off(), at))
	}
}

// Values of points without minimum times are changed at once; of a kind other than binary any number is one of the point.
func TestP14_3Others(t *testing.T) {
	for _, p := range others() {
		for level := 1; level <= 17; level++ {
			check(t, p, driven(value(p.Kind, 1), 100), ask(100, level, value(p.Kind, 0)), driven(value(p.Kind, 0), 100))
			check(t, p, driven(value(p.Kind, 0), 100), ask(101, level, value(p.Kind, 0)), driven(value(p.Kind, 0), 100))
			if p.Kind != api.Binary {
				check(t, p, driven(value(p.Kind, math.MaxInt64), 100), ask(105, level, value(p.Kind, math.MinInt64)), driven(value(p.Kind, math.MinInt64), 105))
			}
		}
	}
}

// checkError tests Value, Next and Replay with a request that has an error.
func checkError(t *testing.T, p api.Point, o api.Driven, a minimum.Ask, want api.Errno) {
	t.Helper()
	if v, e := minimum.Value(p, o, a.Request, a.At); v != (api.Value{}) || e != want {
		t.Errorf("Value(%v, %v): %v, %d, not %d", o, a, v, e, want)
	}
	if next, e := minimum.Next(p, o, a.Request, a.At); next != (api.Driven{}) || e != want {
		t.Errorf("Next(%v, %v): %v, %d, not %d", o, a, next, e, want)
	}
	if l, e := minimum.Replay(p, o, []minimum.Ask{a, a}); len(l) != 0 || e != want {
		t.Errorf("Replay(%v, %v): %v, %d, not %d", o, a, l, e, want)
	}
}

func TestP14_3Errors(t *testing.T) {
	strange := []api.Value{{}, {N: 1}, value(api.Analog, 0), value(api.Analog, 1), value(api.Multi, 1), value(api.Binary, 2), value(api.Binary, -1), value(api.Binary, math.MaxInt64), value(api.Binary, math.MinInt64), value(4, 1), value(-1, 0)}
	noLevels := []int{0, -1, 18, math.MaxInt, math.MinInt, 1<<32 + 1}
	early := []int{99, 0, -1, -api.MaxInstant}
	for _, v := range []api.Value{on(), off()} {
		for _, level := range append(noLevels, 1, 5, 6, 17) {
			for _, now := range append(early, 100, 1000) {
				for _, bad := range strange {
					checkError(t, fan(), driven(bad, 100), ask(now, level, v), api.ErrType)
					checkError(t, fan(), driven(v, 100), ask(now, level, bad), api.ErrType)
					checkError(t, fan(), driven(bad, 100), ask(now, level, bad), api.ErrType)
				}
			}
		}
		for _, level := range noLevels {
			for _, now := range append(early, 100, 1000) {
				checkError(t, fan(), driven(on(), 100), ask(now, level, v), api.ErrRange)
				checkError(t, fan(), driven(off(), 100), ask(now, level, v), api.ErrRange)
			}
		}
		for _, level := range []int{1, 5, 6, 17} {
			for _, now := range early {
				checkError(t, fan(), driven(on(), 100), ask(now, level, v), api.ErrState)
				checkError(t, fan(), driven(off(), 100), ask(now, level, v), api.ErrState)
			}
		}
	}
	for _, p := range others() {
		mine, other := value(p.Kind, 1), value(p.Kind+1, 1)
		checkError(t, p, driven(other, 100), ask(99, 0, mine), api.ErrType)
		checkError(t, p, driven(mine, 100), ask(99, 0, other), api.ErrType)
		checkError(t, p, driven(mine, 100), ask(99, 0, mine), api.ErrRange)
		checkError(t, p, driven(mine, 100), ask(99, 1, mine), api.ErrState)
	}
}

func TestP14_3Replay(t *testing.T) {
	start := driven(on(), 100)
	l, e := minimum.Replay(fan(), start, []minimum.Ask{ask(100, 17, off()), ask(159, 8, off()), ask(160, 8, off()), ask(160, 17, on()), ask(189, 17, on()), ask(190, 17, on()), ask(191, 3, off()), ask(191, 5, on()), ask(191, 6, off()), ask(300, 6, on())})
	if want := []api.Driven{start, start, driven(off(), 160), driven(off(), 160), driven(off(), 160), driven(on(), 190), driven(off(), 191), driven(on(), 191), driven(on(), 191), driven(on(), 191)}; !slices.Equal(l, want) || e != api.OK {
		t.Errorf("Replay: %v, %d", l, e)
	}
	// Without requests nothing is examined.
	for _, o := range []api.Driven{start, {}, driven(value(7, 7), -1)} {
		if l, e := minimum.Replay(fan(), o, nil); len(l) != 0 || e != api.OK {
			t.Errorf("Replay(%v) without requests: %v, %d", o, l, e)
		}
	}
	// The first request with an error counts; an instant may not be before the last change, but before an earlier request.
	for _, c := range []struct {
		list []minimum.Ask
		want api.Errno
	}{
		{[]minimum.Ask{ask(150, 8, on()), ask(120, 8, off()), ask(100, 8, off())}, api.OK},
		{[]minimum.Ask{ask(160, 8, off()), ask(159, 8, off())}, api.ErrState},
		{[]minimum.Ask{ask(160, 8, off()), ask(159, 18, off()), ask(160, 8, value(api.Multi, 1))}, api.ErrRange},
		{[]minimum.Ask{ask(160, 8, off()), ask(159, 8, off()), ask(160, 8, value(api.Multi, 1))}, api.ErrState},
		{[]minimum.Ask{ask(160, 8, off()), ask(160, 0, api.Value{}), ask(159, 8, off())}, api.ErrType},
	} {
		if l, e := minimum.Replay(fan(), start, c.list); e != c.want || (e == api.OK) != (len(l) == len(c.list)) || e != api.OK && len(l) != 0 {
			t.Errorf("Replay(%v): %v, %d, not %d", c.list, l, e, c.want)
		}
	}
}

func TestP14_4Breaks(t *testing.T) {
	for _, c := range []struct {
		list []api.Driven
		want int
	}{
		{nil, -1}, {[]api.Driven{driven(on(), 0)}, -1},
		{[]api.Driven{driven(on(), 0), driven(off(), 60), driven(on(), 90), driven(off(), 150)}, -1},
		{[]api.Driven{driven(on(), 0), driven(off(), 59)}, 1}, {[]api.Driven{driven(off(), 0), driven(on(), 29)}, 1}, {[]api.Driven{driven(off(), 0), driven(on(), 30)}, -1},
		{[]api.Driven{driven(on(), 0), driven(off(), 60), driven(on(), 89), driven(off(), 90)}, 2},
		{[]api.Driven{driven(on(), 0), driven(off(), 60), driven(on(), 90), driven(off(), 149)}, 3},
		// The same value may stand at any instants.
		{[]api.Driven{driven(on(), 0), driven(on(), 1), driven(on(), -5), driven(off(), 54)}, 3}, {[]api.Driven{driven(on(), 0), driven(on(), 1), driven(on(), -5), driven(off(), 55)}, -1}, {[]api.Driven{driven(off(), 9), driven(off(), 9), driven(off(), 0)}, -1},
		// Other values have no minimum time, but a change may not come before the last one.
		{[]api.Driven{driven(value(api.Analog, 1), 5), driven(value(api.Analog, 2), 5), driven(value(api.Analog, 3), 4)}, 2}, {[]api.Driven{driven(api.Value{}, 0), driven(on(), 0), driven(api.Value{}, 59)}, 2}, {[]api.Driven{driven(value(api.Binary, 2), 0), driven(on(), 0), driven(value(api.Analog, 1), 60), driven(off(), 60)}, -1}, {[]api.Driven{driven(off(), 0), driven(value(api.Multi, 0), 29)}, 1},
		{[]api.Driven{driven(on(), -api.MaxInstant), driven(off(), api.MaxInstant), driven(on(), -api.MaxInstant)}, 2},
	} {
		if got := minimum.Breaks(fan(), c.list); got != c.want {
			t.Errorf("Breaks(%v): %d, not %d", c.list, got, c.want)
		}
	}
	for _, p := range others() {
		if got := minimum.Breaks(p, []api.Driven{driven(on(), 0), driven(off(), 0), driven(on(), 1), driven(off(), 2), driven(on(), 1)}); got != 4 {
			t.Errorf("Breaks of %v: %d", p, got)
		}
	}
}

// asks returns random requests in the order of their instants, with levels from a least one on.
func asks(source *rand.Rand, least int) []minimum.Ask {
	var list []minimum.Ask
	now := 100
	for range 1 + source.Intn(40) {
		now += source.Intn(25)
		list = append(list, ask(now, least+source.Intn(18-least), value(api.Binary, source.Int63n(2))))
	}
	return list
}

func TestP14_5Breaks(t *testing.T) {
	source := rand.New(rand.NewSource(145))
	changes := 0
	for range 20000 {
		p := fan()
		p.MinOn, p.MinOff = source.Intn(80), source.Intn(80)
		start := driven(value(api.Binary, source.Int63n(2)), source.Intn(101))
		list := asks(source, 6)
		l, e := minimum.Replay(p, start, list)
		if all := append([]api.Driven{start}, l...); e != api.OK || minimum.Breaks(p, all) != -1 {
			t.Fatalf("Replay(%v, %v): %v, %d, which breaks a minimum time", start, list, l, e)
		}
		if l[len(l)-1] != start {
			changes++
		}
	}
	if changes < 10000 {
		t.Errorf("%d changes", changes)
	}
}

func TestP14_5Replay(t *testing.T) {
	source := rand.New(rand.NewSource(146))
	for range 20000 {
		o := driven(value(api.Binary, source.Int63n(2)), 90)
		list := asks(source, 1)
		l, e := minimum.Replay(fan(), o, list)
		if e != api.OK || len(l) != len(list) {
			t.Fatalf("Replay(%v, %v): %v, %d", o, list, l, e)
		}
		for i, a := range list {
			next, _ := minimum.Next(fan(), o, a.Request, a.At)
			v, _ := minimum.Value(fan(), o, a.Request, a.At)
			if l[i] != next || v != next.Value {
				t.Fatalf("Replay(%v): %v, not %v at %d", list, l[i], next, i)
			}
			if (a.Request.Level <= 5 || a.At >= minimum.Until(fan(), o)) && v != a.Request.Value {
				t.Fatalf("%v of %v is not obeyed", a, list)
			}
			o = next
		}
	}
}

// A request that stands has its value at the latest at Until, and keeps it.
func TestP14_5Until(t *testing.T) {
	for level := 1; level <= 17; level++ {
		for _, c := range []struct{ old, next api.Value }{{on(), off()}, {off(), on()}} {
			start := driven(c.old, 100)
			o := start
			for now := 100; now < 200; now++ {
				next, e := minimum.Next(fan(), o, api.Request{Level: level, Value: c.next}, now)
				if e != api.OK || now >= minimum.Until(fan(), start) && next.Value != c.next {
					t.Fatalf("%v at %d: %v, %d", start, now, next, e)
				}
				o = next
			}
		}
	}
}

func TestP14Examples(t *testing.T) {
	o := driven(on(), 100)
	check(t, fan(), o, ask(159, 8, off()), o)
	check(t, fan(), o, ask(160, 8, off()), driven(off(), 160))
	check(t, fan(), o, ask(101, 3, off()), driven(off(), 101))
	check(t, fan(), driven(off(), 160), ask(189, 17, on()), driven(off(), 160))
	check(t, fan(), driven(off(), 160), ask(190, 17, on()), driven(on(), 190))
	if until := minimum.Until(fan(), o); until != 160 {
		t.Errorf("Until: %d", until)
	}
}

func TestP14Memory(t *testing.T) {
	list := []minimum.Ask{ask(160, 8, off()), ask(200, 8, on())}
	asked := slices.Clone(list)
	a, _ := minimum.Replay(fan(), driven(on(), 100), list)
	b, _ := minimum.Replay(fan(), driven(on(), 100), list)
	states := slices.Clone(a)
	minimum.Breaks(fan(), a)
	if !slices.Equal(list, asked) || !slices.Equal(a, states) {
		t.Error("an argument was changed")
	}
	a[0], a[1] = api.Driven{}, api.Driven{}
	if !slices.Equal(b, states) || !slices.Equal(list, asked) {
		t.Error("results share memory")
	}
}

// Beyond the limits of instants no results are promised, but all functions return.
func TestP1Extremes(t *testing.T) {
	numbers := []int{math.MinInt, -1, 0, 1, math.MaxInt}
	for _, time := range numbers {
		for _, changed := range numbers {
			for _, now := range numbers {
				p, o := fan(), driven(on(), changed)
				p.MinOn = time
				minimum.Held(p, o, now)
				minimum.Until(p, o)
				minimum.Replay(p, o, []minimum.Ask{ask(now, 8, off())})
				minimum.Breaks(p, []api.Driven{o, driven(off(), now)})
			}
		}
	}
}
