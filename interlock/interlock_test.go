package interlock_test

import (
	"fmt"
	"math"
	"math/rand"
	"reflect"
	"slices"
	"strings"
	"testing"

	"plenum/api"
	"plenum/interlock"
)

// on and off are the binary values.
func on() api.Value  { return api.Value{Kind: api.Binary, N: 1} }
func off() api.Value { return api.Value{Kind: api.Binary} }

// fans is a group of three points.
func fans() api.Group {
	return api.Group{Name: "fans", Points: []string{"a", "b", "c"}, Dead: 10}
}

// output makes a binary output.
func output(name string) api.Point {
	return api.Point{Name: name, Kind: api.Binary, Role: api.Output, Default: off()}
}

// outputs makes binary outputs.
func outputs(names ...string) []api.Point {
	var list []api.Point
	for _, name := range names {
		list = append(list, output(name))
	}
	return list
}

// names makes distinct names that begin with a letter.
func names(letter string, count int) []string {
	var list []string
	for i := range count {
		list = append(list, fmt.Sprintf("%s%02d", letter, i))
	}
	return list
}

// group makes a group without a dead time.
func group(name string, points ...string) api.Group { return api.Group{Name: name, Points: points} }

// asks makes what is asked of a group; a level of 0 is that of a point that does not ask, and a negative one that of a point that is asked off.
func asks(levels ...int) []api.Request {
	list := make([]api.Request, len(levels))
	for i, level := range levels {
		switch {
		case level > 0:
			list[i] = api.Request{Level: level, Value: on()}
		case level == 0:
			list[i] = api.Request{Level: 17, Value: off()}
		default:
			list[i] = api.Request{Level: -level, Value: off()}
		}
	}
	return list
}

// state makes a state of a group.
func state(on, left int) interlock.State { return interlock.State{On: on, Left: left} }

func TestP15_1Check(t *testing.T) {
	points := append(outputs("a", "b", "c", "d", "e"), outputs(names("p", 16)...)...)
	many := func(count int) []api.Group {
		var list []api.Group
		for i, name := range names("g", count) {
			list = append(list, group(name, fmt.Sprintf("q%02d", 2*i), fmt.Sprintf("q%02d", 2*i+1)))
		}
		return list
	}
	dead := func(seconds int) []api.Group {
		return []api.Group{{Name: "g", Points: []string{"a", "b"}, Dead: seconds}}
	}
	long := strings.Repeat("x", 24)
	all := append(points, append(outputs(names("q", 40)...), output(long))...)
	for i, c := range []struct {
		groups []api.Group
		want   api.Errno
	}{
		{nil, api.OK}, {[]api.Group{}, api.OK}, {[]api.Group{group("g", "a", "b")}, api.OK}, {[]api.Group{group("g", "b", "a")}, api.OK},
		{[]api.Group{group("g", "a", "b"), group("h", "c", "d")}, api.OK}, {[]api.Group{group("g", "a", "b", "c", "d", "e")}, api.OK},
		{[]api.Group{group("g", names("p", 16)...)}, api.OK}, {many(16), api.OK}, {dead(0), api.OK}, {dead(1), api.OK}, {dead(3600), api.OK}, {[]api.Group{group(long, "a", long)}, api.OK},
		{many(17), api.ErrTooMany}, {make([]api.Group, 17), api.ErrTooMany}, {[]api.Group{group("g", names("p", 17)...)}, api.ErrTooMany}, {[]api.Group{group("g", "a", "b"), group("G", names("p", 17)...)}, api.ErrTooMany},
		{[]api.Group{group("", "a", "b")}, api.ErrName}, {[]api.Group{group("G", "a", "b")}, api.ErrName}, {[]api.Group{group("g", "a", "B")}, api.ErrName}, {[]api.Group{group("g", "", "b")}, api.ErrName}, {[]api.Group{group(long+"x", "a", "b")}, api.ErrName}, {[]api.Group{group("g", "a/b", "b")}, api.ErrName},
		{[]api.Group{group("g", "a", "b"), group("h", "c", long+"x")}, api.ErrName},
		{dead(-1), api.ErrRange}, {dead(3601), api.ErrRange}, {dead(math.MinInt), api.ErrRange}, {dead(math.MaxInt), api.ErrRange},
		{[]api.Group{group("g")}, api.ErrInvalid}, {[]api.Group{group("g", "a")}, api.ErrInvalid}, {[]api.Group{group("g", "a", "b"), group("h", "c")}, api.ErrInvalid},
		{[]api.Group{group("h", "a", "b"), group("g", "c", "d")}, api.ErrDuplicate}, {[]api.Group{group("g", "a", "b"), group("g", "c", "d")}, api.ErrDuplicate}, {[]api.Group{group("g", "a", "a")}, api.ErrDuplicate}, {[]api.Group{group("g", "a", "b", "a")}, api.ErrDuplicate}, {[]api.Group{group("g", "a", "b"), group("h", "b", "c")}, api.ErrDuplicate},
		{[]api.Group{group("g", "a", "z")}, api.ErrUnknown}, {[]api.Group{group("g", "a", "b"), group("h", "z", "c")}, api.ErrUnknown},
		// Each error is looked for in all groups before the next one.
		{[]api.Group{{Name: "g", Points: []string{"a", "b"}, Dead: -1}, group("H", "c", "d")}, api.ErrName},
		{[]api.Group{group("g", "a"), {Name: "h", Points: []string{"c", "d"}, Dead: -1}}, api.ErrRange},
		{[]api.Group{group("h", "a", "a"), group("g", "b")}, api.ErrInvalid},
		{[]api.Group{group("g", "a", "z"), group("h", "b", "b")}, api.ErrDuplicate},
		{[]api.Group{group("h", "z", "a"), group("g", "b", "c")}, api.ErrDuplicate},
	} {
		if e := interlock.Check(all, c.groups); e != c.want {
			t.Errorf("Check %d: %d, not %d", i, e, c.want)
		}
	}
}

func TestP15_1CheckPoints(t *testing.T) {
	pair := []api.Group{group("g", "a", "b")}
	for _, kind := range []int{api.Null, api.Analog, api.Binary, api.Multi, 4, -1} {
		for _, role := range []int{0, api.Input, api.Output, api.Held, 4, -1} {
			want := api.ErrType
			if kind == api.Binary && role == api.Output {
				want = api.OK
			}
			for _, other := range []api.Point{{Name: "a", Kind: kind, Role: role}, {Name: "b", Kind: kind, Role: role}} {
				points := outputs("a", "b")
				points[slices.IndexFunc(points, func(p api.Point) bool { return p.Name == other.Name })] = other
				if e := interlock.Check(points, pair); e != want {
					t.Errorf("Check with %v: %d, not %d", other, e, want)
				}
			}
		}
	}
	input := api.Point{Name: "a", Kind: api.Binary, Role: api.Input}
	for i, c := range []struct {
		points []api.Point
		groups []api.Group
		want   api.Errno
	}{
		// The first point with a name counts, in any order of the names.
		{append(outputs("b", "a"), input), pair, api.OK}, {append([]api.Point{input}, outputs("a", "b")...), pair, api.ErrType},
		{nil, pair, api.ErrUnknown}, {nil, nil, api.OK}, {outputs("a"), pair, api.ErrUnknown},
		{[]api.Point{input, output("c"), output("d")}, []api.Group{group("g", "a", "c"), group("h", "d", "z")}, api.ErrUnknown},
		// The points themselves are not checked.
		{[]api.Point{{Name: "a", Kind: api.Binary, Role: api.Output, MinOn: -1}, output("b"), {Name: "?"}}, pair, api.OK},
	} {
		if e := interlock.Check(c.points, c.groups); e != c.want {
			t.Errorf("Check %d: %d, not %d", i, e, c.want)
		}
	}
}

func TestP15_1Find(t *testing.T) {
	list := []api.Group{group("h", "a", "b"), group("g"), group("G", "", "c", "c", "b"), group("i", "B", "d")}
	for name, want := range map[string][2]int{"a": {0, 0}, "b": {0, 1}, "": {2, 0}, "c": {2, 1}, "B": {3, 0}, "d": {3, 1}} {
		if g, k, e := interlock.Find(list, name); e != api.OK || [2]int{g, k} != want {
			t.Errorf("Find(%q): %d, %d, %d", name, g, k, e)
		}
	}
	for _, name := range []string{"e", "A", "g", "h", "aa"} {
		if g, k, e := interlock.Find(list, name); e != api.ErrNone || g != 0 || k != 0 {
			t.Errorf("Find(%q): %d, %d, %d", name, g, k, e)
		}
	}
	if g, k, e := interlock.Find(nil, ""); e != api.ErrNone || g != 0 || k != 0 {
		t.Errorf("Find in no groups: %d, %d, %d", g, k, e)
	}
}

func TestP15_2Start(t *testing.T) {
	for _, now := range []int{0, 1, 100, api.MaxInstant, -1, math.MinInt, math.MaxInt} {
		if s := interlock.Start(now); s != state(-1, now) {
			t.Errorf("Start(%d): %v", now, s)
		}
	}
}

// winnerByDefinition is the winner, as the document says it: each point has a rank, and the least one wins.
func winnerByDefinition(on int, list []api.Request) int {
	best, winner := math.MaxInt, -1
	for i, r := range list {
		if r.Value.Kind != api.Binary || r.Value.N != 1 || r.Level == 18 && i != on {
			continue
		}
		class := map[bool]int{true: r.Level, false: 3}[r.Level <= 2]
		if r.Level == 18 {
			class = 4
		}
		rank := class*100 + i
		if i == on {
			rank = class * 100
		} else {
			rank++
		}
		if rank < best {
			best, winner = rank, i
		}
	}
	return winner
}

func TestP15_2Winner(t *testing.T) {
	for i, c := range []struct {
		on   int
		asks []api.Request
		want int
	}{
		{-1, asks(0, 0, 0), -1}, {0, asks(0, 0, 0), -1}, {-1, asks(0, 16, 0), 1}, {-1, asks(0, 0, 17), 2}, {-1, asks(9, 8, 3), 0}, {-1, asks(0, 8, 3), 1},
		{2, asks(3, 3, 17), 2}, {1, asks(3, 16, 3), 1}, {1, asks(3, 0, 3), 0}, {0, asks(0, 9, 9), 1},
		{0, asks(3, 0, 2), 2}, {0, asks(3, 2, 1), 2}, {0, asks(2, 1, 1), 1}, {2, asks(1, 1, 1), 2}, {1, asks(2, 2, 2), 1}, {-1, asks(2, 2, 2), 0}, {-1, asks(2, 1, 2), 1}, {0, asks(2, 2, 1), 2}, {0, asks(1, 2, 2), 0},
		{0, asks(18, 0, 0), 0}, {0, asks(18, 18, 18), 0}, {2, asks(18, 18, 18), 2}, {1, asks(18, 0, 0), -1}, {-1, asks(18, 18, 18), -1}, {0, asks(18, 17, 0), 1}, {0, asks(18, 0, 2), 2}, {1, asks(18, 18, 1), 2}, {0, asks(0, 18, 0), -1},
		// Only a binary 1 asks, whatever the level.
		{0, []api.Request{{Level: 1, Value: off()}, {Level: 1, Value: api.Value{Kind: api.Analog, N: 1}}, {Level: 17, Value: on()}}, 2},
		{0, []api.Request{{Level: 1}, {Level: 1, Value: api.Value{Kind: api.Binary, N: 2}}, {Level: 2, Value: api.Value{Kind: api.Multi, N: 1}}}, -1},
		{0, []api.Request{{Level: 1, Value: api.Value{Kind: api.Null, N: 1}}, {Level: 1, Value: api.Value{Kind: api.Binary, N: -1}}, {Level: 2, Value: off()}}, -1},
	} {
		if w, e := interlock.Winner(fans(), state(c.on, 0), c.asks); e != api.OK || w != c.want {
			t.Errorf("Winner %d: %d, %d, not %d", i, w, e, c.want)
		}
	}
}

func TestP15_2WinnerOfAll(t *testing.T) {
	levels := []int{0, -1, 1, 2, 3, 16, 17, 18}
	g := fans()
	for _, a := range levels {
		for _, b := range levels {
			for _, c := range levels {
				for now := -1; now < 3; now++ {
					list := asks(a, b, c)
					want := winnerByDefinition(now, list)
					if w, e := interlock.Winner(g, state(now, 7), list); e != api.OK || w != want {
						t.Errorf("Winner(%d, %d, %d, %d): %d, %d, not %d", now, a, b, c, w, e, want)
					}
				}
			}
		}
	}
}

// badCalls are arguments that are ErrInvalid.
func badCalls() []struct {
	g    api.Group
	s    interlock.State
	asks []api.Request
} {
	type call = struct {
		g    api.Group
		s    interlock.State
		asks []api.Request
	}
	dead := func(n int) api.Group {
		g := fans()
		g.Dead = n
		return g
	}
	free, none := state(-1, 0), asks(0, 0, 0)
	level := func(n int) []api.Request {
		list := asks(0, 0, 0)
		list[2].Level = n
		return list
	}
	return []call{
		{fans(), free, asks(0, 0)}, {fans(), free, nil}, {fans(), free, asks(0, 0, 0, 0)}, {group("g"), free, asks(0)},
		{fans(), free, level(0)}, {fans(), free, level(19)}, {fans(), free, level(-1)}, {fans(), free, level(math.MaxInt)}, {fans(), free, level(math.MinInt)},
		{fans(), state(-2, 0), none}, {fans(), state(3, 0), none}, {fans(), state(math.MaxInt, 0), none}, {fans(), state(math.MinInt, 0), none}, {group("g"), state(0, 0), nil},
		{fans(), state(-1, -1), none}, {fans(), state(-1, math.MinInt), none},
		{dead(-1), free, none}, {dead(3601), free, none}, {dead(math.MinInt), free, none}, {dead(math.MaxInt), free, none},
	}
}

func TestP15_2Errors(t *testing.T) {
	for i, c := range badCalls() {
		if w, e := interlock.Winner(c.g, c.s, c.asks); e != api.ErrInvalid || w != 0 {
			t.Errorf("Winner %d: %d, %d", i, w, e)
		}
		for _, now := range []int{0, 100, -1, math.MaxInt} {
			if s, e := interlock.Step(c.g, c.s, c.asks, now); e != api.ErrInvalid || s != state(0, 0) {
				t.Errorf("Step %d: %v, %d", i, s, e)
			}
			if w, at, e := interlock.Waiting(c.g, c.s, c.asks, now); e != api.ErrInvalid || w != 0 || at != 0 {
				t.Errorf("Waiting %d: %d, %d, %d", i, w, at, e)
			}
		}
	}
	for i, c := range []struct {
		left, now int
		good      bool
	}{
		{0, 0, true}, {100, 100, true}, {100, 101, true}, {api.MaxInstant, api.MaxInstant, true}, {0, api.MaxInstant, true},
		{0, -1, false}, {100, 99, false}, {0, api.MaxInstant + 1, false}, {0, math.MaxInt, false}, {0, math.MinInt, false}, {api.MaxInstant + 1, api.MaxInstant, false}, {math.MaxInt, math.MaxInt, false}, {math.MaxInt, 5, false},
	} {
		s, e := interlock.Step(fans(), state(1, c.left), asks(0, 9, 0), c.now)
		want, code := state(1, c.left), api.OK
		if !c.good {
			want, code = state(0, 0), api.ErrRange
		}
		if s != want || e != code {
			t.Errorf("Step %d: %v, %d", i, s, e)
		}
		if w, at, e := interlock.Waiting(fans(), state(1, c.left), asks(0, 9, 0), c.now); w != 0 || at != 0 || e != map[bool]api.Errno{true: api.ErrNone, false: api.ErrRange}[c.good] {
			t.Errorf("Waiting %d: %d, %d, %d", i, w, at, e)
		}
	}
	// Winner does not look at how late it is.
	if w, e := interlock.Winner(fans(), state(-1, math.MaxInt), asks(0, 9, 0)); e != api.OK || w != 1 {
		t.Errorf("Winner: %d, %d", w, e)
	}
}

func TestP15_2NoPoints(t *testing.T) {
	g := api.Group{}
	if w, e := interlock.Winner(g, state(-1, 5), nil); e != api.OK || w != -1 {
		t.Errorf("Winner: %d, %d", w, e)
	}
	if s, e := interlock.Step(g, state(-1, 5), nil, 6); e != api.OK || s != state(-1, 5) {
		t.Errorf("Step: %v, %d", s, e)
	}
	if w, at, e := interlock.Waiting(g, state(-1, 5), nil, 6); e != api.ErrNone || w != 0 || at != 0 {
		t.Errorf("Waiting: %d, %d, %d", w, at, e)
	}
}

func TestP15_2Step(t *testing.T) {
	for i, c := range []struct {
		s    interlock.State
		dead int
		asks []api.Request
		now  int
		want interlock.State
	}{
		{state(1, 50), 10, asks(0, 9, 0), 100, state(1, 50)}, {state(1, 50), 10, asks(9, 9, 9), 100, state(1, 50)}, {state(1, 100), 10, asks(0, 18, 0), 100, state(1, 100)},
		{state(1, 50), 10, asks(0, 0, 0), 100, state(-1, 100)}, {state(1, 50), 10, asks(9, 0, 0), 100, state(-1, 100)}, {state(1, 50), 10, asks(1, 9, 0), 100, state(-1, 100)}, {state(1, 50), 0, asks(1, 9, 0), 100, state(-1, 100)}, {state(1, 50), 0, asks(9, 18, 0), 100, state(-1, 100)},
		{state(-1, 90), 10, asks(0, 9, 0), 99, state(-1, 90)}, {state(-1, 90), 10, asks(0, 9, 0), 100, state(1, 90)}, {state(-1, 90), 10, asks(9, 9, 0), 101, state(0, 90)}, {state(-1, 90), 0, asks(9, 9, 0), 90, state(0, 90)}, {state(-1, 90), 1, asks(9, 9, 0), 90, state(-1, 90)}, {state(-1, 90), 1, asks(9, 9, 0), 91, state(0, 90)},
		{state(-1, 90), 10, asks(0, 0, 0), 200, state(-1, 90)}, {state(-1, 90), 10, asks(18, 0, 18), 200, state(-1, 90)}, {state(-1, 90), 10, asks(1, 1, 1), 99, state(-1, 90)},
		{state(-1, 0), 3600, asks(0, 0, 1), 3599, state(-1, 0)}, {state(-1, 0), 3600, asks(0, 0, 1), 3600, state(2, 0)},
	} {
		g := fans()
		g.Dead = c.dead
		if s, e := interlock.Step(g, c.s, c.asks, c.now); e != api.OK || s != c.want {
			t.Errorf("Step %d: %v, %d, not %v", i, s, e, c.want)
		}
	}
}

// randomAsks returns what is asked of a group of three points.
func randomAsks(r *rand.Rand) []api.Request {
	levels := []int{0, 0, 0, -3, 1, 2, 2, 9, 16, 17, 18}
	pick := func() int { return levels[r.Intn(len(levels))] }
	return asks(pick(), pick(), pick())
}

func TestP15_3Waiting(t *testing.T) {
	for i, c := range []struct {
		s    interlock.State
		dead int
		asks []api.Request
		now  int
		w    int
		at   int
		want api.Errno
	}{
		{state(-1, 95), 10, asks(0, 16, 0), 100, 1, 105, api.OK}, {state(-1, 95), 10, asks(0, 16, 0), 105, 1, 105, api.OK}, {state(-1, 95), 10, asks(9, 16, 0), 200, 0, 200, api.OK}, {state(-1, 95), 0, asks(9, 16, 0), 95, 0, 95, api.OK},
		{state(0, 95), 10, asks(0, 16, 0), 100, 1, 110, api.OK}, {state(0, 95), 10, asks(9, 0, 2), 100, 2, 110, api.OK}, {state(0, 95), 0, asks(9, 0, 2), 100, 2, 101, api.OK}, {state(0, 95), 1, asks(9, 0, 2), 100, 2, 101, api.OK}, {state(0, 95), 2, asks(9, 0, 2), 100, 2, 102, api.OK},
		{state(-1, 95), 10, asks(0, 0, 0), 100, 0, 0, api.ErrNone}, {state(1, 95), 10, asks(0, 0, 0), 100, 0, 0, api.ErrNone}, {state(1, 95), 10, asks(9, 9, 9), 100, 0, 0, api.ErrNone}, {state(1, 95), 10, asks(0, 18, 0), 100, 0, 0, api.ErrNone}, {state(-1, 95), 10, asks(0, 18, 0), 100, 0, 0, api.ErrNone}, {state(0, 95), 10, asks(9, 0, 0), 100, 0, 0, api.ErrNone},
		// It may lie behind the last instant.
		{state(-1, api.MaxInstant), 3600, asks(9, 0, 0), api.MaxInstant, 0, api.MaxInstant + 3600, api.OK}, {state(1, 0), 0, asks(9, 0, 0), api.MaxInstant, 0, api.MaxInstant + 1, api.OK},
	} {
		g := fans()
		g.Dead = c.dead
		if w, at, e := interlock.Waiting(g, c.s, c.asks, c.now); w != c.w || at != c.at || e != c.want {
			t.Errorf("Waiting %d: %d, %d, %d, not %d, %d, %d", i, w, at, e, c.w, c.at, c.want)
		}
	}
}

func TestP15_3Steps(t *testing.T) {
	r := rand.New(rand.NewSource(1))
	for range 20000 {
		g := fans()
		g.Dead = r.Intn(6)
		list, now := randomAsks(r), 100
		s := state(r.Intn(4)-1, now-r.Intn(8))
		w, _ := interlock.Winner(g, s, list)
		got, at, e := interlock.Waiting(g, s, list, now)
		if w < 0 || w == s.On {
			if got != 0 || at != 0 || e != api.ErrNone {
				t.Fatalf("Waiting(%v, %v, %v): %d, %d, %d", g, s, list, got, at, e)
			}
			continue
		}
		first := now
		for x := s; first < 200; first++ {
			if x, _ = interlock.Step(g, x, list, first); x.On == w {
				break
			}
		}
		if got != w || at != first || e != api.OK {
			t.Fatalf("Waiting(%v, %v, %v): %d, %d, %d, not %d, %d", g, s, list, got, at, e, w, first)
		}
	}
}

func TestP15_4Breaks(t *testing.T) {
	for i, c := range []struct {
		dead int
		on   []int
		want int
	}{
		{2, nil, -1}, {2, []int{0}, -1}, {2, []int{2}, -1}, {2, []int{-1, 0}, -1}, {2, []int{-1, -1, 2, 2, -1}, -1},
		{2, []int{0, 0, -1, -1, 1}, -1}, {2, []int{0, 0, -1, 1}, 3}, {2, []int{0, -1, 0}, 2}, {2, []int{0, -1, -1, 0}, -1}, {2, []int{0, 1}, 1}, {0, []int{0, 1}, 1}, {0, []int{0, -1, 1}, -1}, {1, []int{0, -1, 1, -1, 1}, -1}, {1, []int{0, -1, 1, -1, 1, 2}, 5},
		{-5, []int{0, -1, 0, 1}, 3}, {3600, []int{0, -1, -1, -1, 1, 0}, 4}, {3600, []int{-1, 1}, -1}, {3600, []int{7, 1, -1, 2}, 3}, {math.MaxInt, []int{0, -1, 0}, 2}, {math.MinInt, []int{0, -1, 0}, -1},
		// What is no index is nothing on.
		{2, []int{1, 3, -3, 1, 0}, 4}, {2, []int{3, 0}, -1}, {2, []int{0, 3, -2, 0}, -1}, {3, []int{0, 3, -2, 0}, 3}, {2, []int{0, 3, 1}, 2}, {1, []int{math.MaxInt, 0, math.MinInt, 1}, -1}, {0, []int{3, 4}, -1},
	} {
		g := fans()
		g.Dead = c.dead
		var run []interlock.State
		for k, on := range c.on {
			run = append(run, state(on, k*77-5))
		}
		if b := interlock.Breaks(g, run); b != c.want {
			t.Errorf("Breaks %d: %d, not %d", i, b, c.want)
		}
	}
	if b := interlock.Breaks(api.Group{}, []interlock.State{{On: 0}, {On: 1}}); b != -1 {
		t.Errorf("Breaks without points: %d", b)
	}
}

// breaksByDefinition looks back from each state for the last one in which a point was on.
func breaksByDefinition(g api.Group, run []interlock.State) int {
	isOn := func(i int) bool { return 0 <= run[i].On && run[i].On < len(g.Points) }
	for i := 1; i < len(run); i++ {
		if !isOn(i) || run[i].On == run[i-1].On {
			continue
		}
		last := i - 1
		for last >= 0 && !isOn(last) {
			last--
		}
		// The last one went off in the state behind the last one in which it was on.
		if last == i-1 || last >= 0 && i-(last+1) < g.Dead {
			return i
		}
	}
	return -1
}

func TestP15_4Random(t *testing.T) {
	r := rand.New(rand.NewSource(2))
	for range 20000 {
		g := fans()
		g.Dead = r.Intn(5) - 1
		var run []interlock.State
		for on := -1; len(run) < 12; {
			if r.Intn(3) == 0 {
				on = r.Intn(5) - 2
			}
			run = append(run, state(on, r.Intn(9)-4))
		}
		if got, want := interlock.Breaks(g, run), breaksByDefinition(g, run); got != want {
			t.Fatalf("Breaks(%v, %v): %d, not %d", g, run, got, want)
		}
	}
}

func TestP15_6Runs(t *testing.T) {
	r := rand.New(rand.NewSource(3))
	for range 400 {
		g := fans()
		g.Dead = r.Intn(6)
		s := interlock.Start(1000)
		run := []interlock.State{s}
		list := randomAsks(r)
		for now := 1000; now < 1120; now++ {
			if r.Intn(4) == 0 {
				list = randomAsks(r)
			}
			before, _ := interlock.Winner(g, s, list)
			next, e := interlock.Step(g, s, list, now)
			if e != api.OK || next.On < -1 || next.On > 2 {
				t.Fatalf("Step: %v, %d", next, e)
			}
			if after, _ := interlock.Winner(g, next, list); after != before {
				t.Fatalf("Step(%v, %v): the winner changes from %d to %d", s, list, before, after)
			}
			if next.On >= 0 && (list[next.On].Value != on() || next.On != before) {
				t.Fatalf("Step(%v, %v): %v is on", s, list, next)
			}
			for i, a := range list {
				alone := !slices.ContainsFunc(asksWithout(list, i), func(o api.Request) bool { return o.Level == 1 && o.Value == on() })
				if a.Level == 1 && a.Value == on() && alone && next.On != i && now-next.Left >= g.Dead && s.On < 0 {
					t.Fatalf("Step(%v, %v): %v is not on at level 1", s, list, next)
				}
			}
			s = next
			run = append(run, s)
		}
		if b := interlock.Breaks(g, run); b != -1 {
			t.Fatalf("Breaks: %d in %v", b, run)
		}
	}
}

// asksWithout returns what is asked without the point with an index.
func asksWithout(list []api.Request, i int) []api.Request {
	return slices.Delete(slices.Clone(list), i, i+1)
}

func TestP15_6LevelOne(t *testing.T) {
	r := rand.New(rand.NewSource(4))
	for range 5000 {
		g := fans()
		g.Dead = r.Intn(6)
		list, now := randomAsks(r), 100
		i := r.Intn(3)
		for k := range list {
			if k == i {
				list[k] = api.Request{Level: 1, Value: on()}
			} else if list[k].Level == 1 {
				list[k].Level = 2
			}
		}
		s := state(r.Intn(4)-1, now-r.Intn(8))
		free := s.Left + g.Dead
		if s.On != -1 {
			free = now + max(g.Dead, 1)
		}
		if s.On == i {
			free = now
		}
		for ; now <= max(free, 100); now++ {
			s, _ = interlock.Step(g, s, list, now)
		}
		if s.On != i {
			t.Fatalf("%v: %d with level 1 is not on at %d: %v", list, i, now-1, s)
		}
	}
}

func TestP15Examples(t *testing.T) {
	g := fans()
	s := state(-1, 95)
	if w, at, e := interlock.Waiting(g, s, asks(0, 16, 0), 100); w != 1 || at != 105 || e != api.OK {
		t.Errorf("Waiting: %d, %d, %d", w, at, e)
	}
	for now := 100; now <= 105; now++ {
		s, _ = interlock.Step(g, s, asks(0, 16, 0), now)
		if want := map[bool]int{true: 1, false: -1}[now == 105]; s.On != want {
			t.Errorf("Step at %d: %v", now, s)
		}
	}
	if s, _ = interlock.Step(g, s, asks(9, 16, 0), 120); s.On != 1 {
		t.Errorf("Step: %v", s)
	}
	for now := 121; now <= 131; now++ {
		s, _ = interlock.Step(g, s, asks(2, 16, 0), now)
		if want := map[bool]int{true: 0, false: -1}[now == 131]; s != state(want, 121) {
			t.Errorf("Step at %d: %v", now, s)
		}
	}
	if w, e := interlock.Winner(g, state(1, 0), asks(0, 18, 17)); w != 2 || e != api.OK {
		t.Errorf("Winner: %d, %d", w, e)
	}
	if s, e := interlock.Step(g, state(1, 0), asks(0, 18, 17), 200); s != state(-1, 200) || e != api.OK {
		t.Errorf("Step: %v, %d", s, e)
	}
}

func TestP15Memory(t *testing.T) {
	g, list, run, points := fans(), asks(1, 9, 0), []interlock.State{{On: 7, Left: -1}, {On: 1}}, outputs("c", "a", "b")
	groups := []api.Group{fans()}
	_, _ = interlock.Winner(g, state(1, 0), list)
	_, _ = interlock.Step(g, state(1, 0), list, 5)
	_, _, _ = interlock.Waiting(g, state(1, 0), list, 5)
	_ = interlock.Breaks(g, run)
	_ = interlock.Check(points, groups)
	_, _, _ = interlock.Find(groups, "b")
	_, _ = interlock.Line(g)
	if !reflect.DeepEqual(g, fans()) || !reflect.DeepEqual(list, asks(1, 9, 0)) || !reflect.DeepEqual(run, []interlock.State{{On: 7, Left: -1}, {On: 1}}) || !reflect.DeepEqual(points, outputs("c", "a", "b")) || !reflect.DeepEqual(groups, []api.Group{fans()}) {
		t.Error("an argument was changed")
	}
}
