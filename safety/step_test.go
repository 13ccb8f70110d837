package safety_test

import (
	"math"
	"math/rand"
	"reflect"
	"testing"

	"plenum/api"
	"plenum/safety"
)

func TestP16_3Errors(t *testing.T) {
	good := start(t, 100)
	with := func(change func(s *safety.State)) safety.State {
		s := start(t, 100)
		change(&s)
		return s
	}
	output := func(i int, o api.Driven) safety.State {
		return with(func(s *safety.State) { s.Outputs[i] = o })
	}
	left := func(n int) safety.State { return with(func(s *safety.State) { s.Left[0] = n }) }
	both := with(func(s *safety.State) { s.Outputs[indexA].Value, s.Outputs[indexB].Value = on(), on() })
	bad := quiet(map[int]api.Request{indexA: turn(0, on())})
	for i, c := range []struct {
		s        safety.State
		requests []api.Request
		now      int
		want     api.Errno
	}{
		{good, quiet(nil), 100, api.OK}, {good, quiet(nil), api.MaxInstant, api.OK}, {output(indexA, api.Driven{Value: on(), Changed: 0}), quiet(nil), 100, api.OK}, {left(0), quiet(nil), 100, api.OK}, {output(indexT, api.Driven{}), quiet(nil), 100, api.OK},
		{safety.State{}, nil, -1, api.ErrRange}, {good, quiet(nil), api.MaxInstant + 1, api.ErrRange}, {good, quiet(nil), math.MinInt, api.ErrRange}, {good, quiet(nil), math.MaxInt, api.ErrRange},
		{safety.State{}, quiet(nil), 100, api.ErrInvalid}, {with(func(s *safety.State) { s.Outputs = s.Outputs[1:] }), quiet(nil), 100, api.ErrInvalid}, {with(func(s *safety.State) { s.Outputs = append(s.Outputs, api.Driven{}) }), quiet(nil), 100, api.ErrInvalid}, {with(func(s *safety.State) { s.Left = nil }), quiet(nil), 100, api.ErrInvalid}, {with(func(s *safety.State) { s.Left = []int{0, 0} }), quiet(nil), 100, api.ErrInvalid},
		{output(indexT, api.Driven{Changed: 1}), quiet(nil), 100, api.ErrInvalid}, {output(indexT, api.Driven{Value: analog(0)}), quiet(nil), 100, api.ErrInvalid},
		{output(indexA, api.Driven{Value: analog(0), Changed: 100}), quiet(nil), 100, api.ErrInvalid}, {output(indexA, api.Driven{Value: api.Value{Kind: api.Binary, N: 2}}), quiet(nil), 100, api.ErrInvalid}, {output(indexV, api.Driven{Value: analog(4999)}), quiet(nil), 100, api.ErrInvalid}, {output(indexM, api.Driven{Value: multi(3)}), quiet(nil), 100, api.ErrInvalid}, {output(indexH, api.Driven{}), quiet(nil), 100, api.ErrInvalid},
		{output(indexH, api.Driven{Value: off(), Changed: -1}), quiet(nil), 100, api.ErrInvalid}, {output(indexH, api.Driven{Value: off(), Changed: api.MaxInstant + 1}), quiet(nil), 100, api.ErrInvalid}, {left(-1), quiet(nil), 100, api.ErrInvalid}, {left(api.MaxInstant + 1), quiet(nil), 100, api.ErrInvalid}, {both, quiet(nil), 100, api.ErrInvalid},
		{good, quiet(nil)[1:], 99, api.ErrInvalid}, {good, append(bad, api.Request{}), 99, api.ErrInvalid}, {good, nil, 100, api.ErrInvalid},
		{good, bad, 99, api.ErrState}, {good, quiet(nil), 0, api.ErrState}, {left(101), quiet(nil), 100, api.ErrState}, {output(indexV, api.Driven{Value: analog(5000), Changed: 101}), quiet(nil), 100, api.ErrState}, {left(api.MaxInstant), quiet(nil), api.MaxInstant - 1, api.ErrState},
		{good, bad, 100, api.ErrRange}, {good, quiet(map[int]api.Request{indexA: turn(18, on())}), 100, api.ErrRange}, {good, quiet(map[int]api.Request{indexV: turn(-1, analog(5000))}), 100, api.ErrRange}, {good, quiet(map[int]api.Request{indexA: turn(8, analog(1))}), 100, api.ErrRange}, {good, quiet(map[int]api.Request{indexA: turn(8, api.Value{})}), 100, api.ErrRange}, {good, quiet(map[int]api.Request{indexA: {}}), 100, api.ErrRange},
		{good, quiet(map[int]api.Request{indexV: turn(8, analog(100001))}), 100, api.ErrRange}, {good, quiet(map[int]api.Request{indexM: turn(8, multi(3))}), 100, api.ErrRange}, {good, quiet(map[int]api.Request{indexC: turn(math.MaxInt, on())}), 100, api.ErrRange},
		// What is requested of an input does not matter.
		{good, quiet(map[int]api.Request{indexT: turn(99, multi(-1))}), 100, api.OK},
	} {
		s, list, e := safety.Step(hall(), c.s, c.requests, c.now)
		if e != c.want || e != api.OK && (len(list) != 0 || !reflect.DeepEqual(s, safety.State{})) {
			t.Errorf("Step %d: %v, %v, %d, not %d", i, s, list, e, c.want)
		}
		if e == api.OK && (s.Outputs[indexT] != api.Driven{} || list[indexT] != safety.Result{}) {
			t.Errorf("Step %d: the input does %v", i, list[indexT])
		}
	}
	if s, list, e := safety.Step(safety.Table{}, safety.State{}, nil, 5); e != api.OK || len(list) != 0 || len(s.Outputs) != 0 || len(s.Left) != 0 {
		t.Errorf("Step: %v, %v, %d", s, list, e)
	}
}

// scan is one scan of the hall: what is requested, and what one point does.
type scan struct {
	now      int
	requests map[int]api.Request
	index    int
	v        api.Value
	reason   int
	changed  int
}

// checkScans runs scans of the hall from a restart at 100 on.
func checkScans(t *testing.T, scans []scan) safety.State {
	t.Helper()
	s := start(t, 100)
	for i, c := range scans {
		requests := quiet(c.requests)
		next, list, e := safety.Step(hall(), s, requests, c.now)
		if e != api.OK || len(list) != count {
			t.Fatalf("Step %d: %v, %d", i, list, e)
		}
		want := safety.Result{Request: requests[c.index], Value: c.v, Reason: c.reason}
		if list[c.index] != want || next.Outputs[c.index] != (api.Driven{Value: c.v, Changed: c.changed}) {
			t.Errorf("Step %d: %v, %v, not %v", i, list[c.index], next.Outputs[c.index], want)
		}
		s = next
	}
	return s
}

// only makes the requests of one point.
func only(i int, r api.Request) map[int]api.Request { return map[int]api.Request{i: r} }

func TestP16_3MinimumTimes(t *testing.T) {
	checkScans(t, []scan{
		{100, only(indexC, turn(9, on())), indexC, off(), safety.ByMinimum, 100},
		{129, only(indexC, turn(6, on())), indexC, off(), safety.ByMinimum, 100},
		{130, only(indexC, turn(9, on())), indexC, on(), safety.ByRequest, 130},
		{131, only(indexC, turn(17, off())), indexC, on(), safety.ByMinimum, 130},
		{140, only(indexC, turn(17, on())), indexC, on(), safety.ByRequest, 130},
		{189, only(indexC, turn(6, off())), indexC, on(), safety.ByMinimum, 130},
		{190, only(indexC, turn(17, off())), indexC, off(), safety.ByRequest, 190},
		{191, only(indexC, turn(5, on())), indexC, on(), safety.ByRequest, 191},
		{192, only(indexC, turn(1, off())), indexC, off(), safety.ByRequest, 192},
	})
}

func TestP16_3OtherPoints(t *testing.T) {
	checkScans(t, []scan{{100, only(indexH, turn(17, on())), indexH, on(), safety.ByRequest, 100}, {101, only(indexH, turn(16, off())), indexH, off(), safety.ByRequest, 101}})
	checkScans(t, []scan{{105, only(indexM, turn(8, multi(2))), indexM, multi(2), safety.ByRequest, 105}, {106, only(indexM, turn(9, multi(2))), indexM, multi(2), safety.ByRequest, 105}})
	checkScans(t, []scan{{105, only(indexV, turn(17, analog(100000))), indexV, analog(100000), safety.ByRequest, 105}, {105, only(indexV, turn(17, analog(99999))), indexV, analog(99999), safety.ByRequest, 105}})
}

func TestP16_3Groups(t *testing.T) {
	s := checkScans(t, []scan{
		{100, only(indexA, turn(8, on())), indexA, off(), safety.ByWaiting, 100},
		{109, map[int]api.Request{indexA: turn(8, on()), indexB: turn(16, on())}, indexA, off(), safety.ByInterlock, 100},
		{109, map[int]api.Request{indexA: turn(2, on()), indexB: turn(16, on())}, indexB, off(), safety.ByInterlock, 100},
		{110, only(indexA, turn(8, on())), indexA, on(), safety.ByRequest, 110},
		{111, map[int]api.Request{indexA: turn(8, on()), indexB: turn(3, on())}, indexB, off(), safety.ByInterlock, 100},
		{112, map[int]api.Request{indexA: turn(8, on()), indexB: turn(2, on())}, indexA, off(), safety.ByInterlock, 112},
		{112, map[int]api.Request{indexA: turn(8, on()), indexB: turn(2, on())}, indexB, off(), safety.ByWaiting, 100},
		{122, map[int]api.Request{indexA: turn(1, on()), indexB: turn(2, on())}, indexA, on(), safety.ByRequest, 122},
		{123, only(indexB, turn(17, on())), indexA, off(), safety.ByRequest, 123},
	})
	if s.Left[0] != 123 {
		t.Errorf("the group went off at %d", s.Left[0])
	}
}

func TestP16_3KeptInAGroup(t *testing.T) {
	table := hall()
	table.Points[indexA].MinOn = 60
	state := start(t, 0)
	state.Left[0] = 50
	state.Outputs[indexA] = api.Driven{Value: on(), Changed: 100}
	for i, c := range []struct {
		a, b    api.Request
		value   api.Value
		reason  int
		other   int
		nowLeft int
	}{
		// Its minimum time keeps it on, unless another one asks.
		{turn(9, off()), turn(17, off()), on(), safety.ByMinimum, safety.ByRequest, 50}, {turn(17, off()), turn(17, on()), off(), safety.ByRequest, safety.ByWaiting, 120}, {turn(9, off()), turn(1, on()), off(), safety.ByRequest, safety.ByWaiting, 120},
		{turn(17, on()), turn(9, on()), on(), safety.ByRequest, safety.ByInterlock, 50}, {turn(17, on()), turn(2, on()), off(), safety.ByInterlock, safety.ByWaiting, 120}, {turn(5, off()), turn(17, off()), off(), safety.ByRequest, safety.ByRequest, 120},
	} {
		next, list, e := safety.Step(table, state, quiet(map[int]api.Request{indexA: c.a, indexB: c.b}), 120)
		if e != api.OK || list[indexA].Value != c.value || list[indexA].Reason != c.reason || list[indexB].Reason != c.other || list[indexB].Value != off() || next.Left[0] != c.nowLeft {
			t.Errorf("Step %d: %v, %v, %v, %d", i, list, next, next.Left, e)
		}
	}
}

// twoGroups is a table of two groups and a point in none, with minimum times.
func twoGroups() safety.Table {
	return safety.Table{
		Points: []api.Point{fan("a", 5, 0), fan("b", 0, 4), fan("c", 0, 0), fan("d", 6, 3), fan("e", 3, 3), fan("f", 7, 5)},
		Groups: []api.Group{{Name: "g", Points: []string{"c", "a", "e"}, Dead: 3}, {Name: "h", Points: []string{"d", "b"}}},
	}
}

// byDefinition is what the points of a table of binary outputs do in a scan, as the document says it.
func byDefinition(t safety.Table, s safety.State, requests []api.Request, now int) (safety.State, []safety.Result) {
	next := safety.State{Left: append([]int(nil), s.Left...)}
	free := make([]api.Value, len(t.Points))
	result := make([]safety.Result, len(t.Points))
	for i, p := range t.Points {
		least := p.MinOff
		if s.Outputs[i].Value == on() {
			least = p.MinOn
		}
		free[i] = requests[i].Value
		if now-s.Outputs[i].Changed < least && requests[i].Level > 5 {
			free[i] = s.Outputs[i].Value
		}
		result[i].Value = free[i]
	}
	winners := map[int]bool{}
	for k, g := range t.Groups {
		var members []int
		for _, name := range g.Points {
			for i, p := range t.Points {
				if p.Name == name {
					members = append(members, i)
				}
			}
		}
		was, winner := -1, -1
		// The rank of what asks: urgent levels, then the others, then what is only kept.
		rank := func(i int) int {
			class := 3
			switch {
			case requests[i].Value == off():
				class = 4
			case requests[i].Level <= 2:
				class = requests[i].Level
			}
			if s.Outputs[i].Value == on() {
				return 2 * class
			}
			return 2*class + 1
		}
		for _, i := range members {
			if s.Outputs[i].Value == on() {
				was = i
			}
			if free[i] == on() && (winner < 0 || rank(i) < rank(winner)) {
				winner = i
			}
			result[i].Value = off()
		}
		switch {
		case was >= 0 && was == winner, was < 0 && winner >= 0 && now-s.Left[k] >= g.Dead:
			result[winner].Value = on()
		case was >= 0:
			next.Left[k] = now
		}
		winners[winner] = true
	}
	for i := range t.Points {
		r := &result[i]
		r.Request = requests[i]
		switch {
		case r.Value == requests[i].Value:
			r.Reason = safety.ByRequest
		case r.Value == free[i]:
			r.Reason = safety.ByMinimum
		case winners[i]:
			r.Reason = safety.ByWaiting
		default:
			r.Reason = safety.ByInterlock
		}
		o := s.Outputs[i]
		if r.Value != o.Value {
			o = api.Driven{Value: r.Value, Changed: now}
		}
		next.Outputs = append(next.Outputs, o)
	}
	return next, result
}

// randomRequests changes some requests.
func randomRequests(r *rand.Rand, list []api.Request) []api.Request {
	levels := []int{1, 1, 2, 2, 3, 5, 6, 9, 16, 17, 17, 17}
	list = append([]api.Request(nil), list...)
	for i := range list {
		if r.Intn(5) == 0 {
			list[i] = turn(levels[r.Intn(len(levels))], api.Value{Kind: api.Binary, N: int64(r.Intn(2))})
		}
	}
	return list
}

func TestP16_3RandomRuns(t *testing.T) {
	r := rand.New(rand.NewSource(1))
	table := twoGroups()
	for range 300 {
		s, _ := safety.Start(table, 1000)
		requests := make([]api.Request, len(table.Points))
		for i := range requests {
			requests[i] = turn(17, off())
		}
		for now := 1000; now < 1100; now += r.Intn(3) {
			requests = randomRequests(r, requests)
			want, wantList := byDefinition(table, s, requests, now)
			next, list, e := safety.Step(table, s, requests, now)
			if e != api.OK || !reflect.DeepEqual(next, want) || !reflect.DeepEqual(list, wantList) {
				t.Fatalf("Step(%v, %v, %d):\n%v, %v, %d, not\n%v, %v", s, requests, now, next, list, e, want, wantList)
			}
			s = next
		}
	}
}

func TestP16_6Consequences(t *testing.T) {
	r := rand.New(rand.NewSource(2))
	table := twoGroups()
	groupOf := map[int][]int{0: {2, 4}, 1: {3}, 2: {0, 4}, 3: {1}, 4: {2, 0}}
	for range 300 {
		s, _ := safety.Start(table, 1000)
		requests := make([]api.Request, len(table.Points))
		for i := range requests {
			requests[i] = turn(17, on())
		}
		for now := 1000; now < 1100; now++ {
			requests = randomRequests(r, requests)
			next, list, e := safety.Step(table, s, requests, now)
			if e != api.OK || !safety.Exclusive(table, next) {
				t.Fatalf("Step: %v, %d", next, e)
			}
			for i, p := range table.Points {
				q := requests[i]
				members, grouped := groupOf[i]
				other := false
				for _, k := range members {
					other = other || requests[k] == turn(1, on())
				}
				over := now-s.Outputs[i].Changed >= map[bool]int{true: p.MinOn, false: p.MinOff}[s.Outputs[i].Value == on()]
				switch {
				case q.Value == off() && q.Level <= 5 && list[i].Value != off():
					t.Fatalf("%s is not off at once: %v", p.Name, list[i])
				case !grouped && (q.Level <= 5 || over) && list[i].Value != q.Value:
					t.Fatalf("%s has not what is requested: %v", p.Name, list[i])
				case grouped && q == turn(1, on()) && !other && list[i].Value != on() && list[i].Reason != safety.ByWaiting:
					t.Fatalf("%s neither is on nor waits: %v", p.Name, list[i])
				}
			}
			s = next
		}
	}
}

func TestP16_6Ranks(t *testing.T) {
	arrays := make([][]api.Write, count)
	for level := 1; level <= api.Levels; level++ {
		arrays[indexA] = []api.Write{write(level, 5, off())}
		list, _ := safety.Request(hall(), arrays, []string{"fire"}, nil)
		want := turn(2, on())
		if level == 1 {
			want = turn(1, off())
		}
		if list[indexA] != want {
			t.Errorf("an order against level %d: %v", level, list[indexA])
		}
		list, _ = safety.Request(hall(), arrays, []string{"smoke"}, []api.Setting{set("a", on())})
		if list[indexA] != turn(1, on()) {
			t.Errorf("a switch against level %d: %v", level, list[indexA])
		}
	}
}

// exampleTable is the table of the chapter's examples.
func exampleTable() safety.Table {
	return safety.Table{
		Points: []api.Point{fan("a", 0, 0), fan("b", 0, 0), fan("c", 60, 0)},
		Groups: []api.Group{{Name: "g", Points: []string{"a", "b"}, Dead: 10}},
		Modes:  []api.Mode{mode("fire", set("a", on()), set("c", off()))},
	}
}

func TestP16Examples(t *testing.T) {
	table := exampleTable()
	s, _ := safety.Start(table, 100)
	for _, c := range []struct {
		now    int
		arrays [][]api.Write
		modes  []string
		texts  [3]string
	}{
		{100, [][]api.Write{nil, {write(8, 1, on())}, {write(9, 2, on())}}, nil, [3]string{"off by default", "off, dead time, on by level 8", "on by level 9"}},
		{109, [][]api.Write{nil, {write(8, 1, on())}, {write(9, 2, on())}}, nil, [3]string{"off by default", "off, dead time, on by level 8", "on by level 9"}},
		{110, [][]api.Write{nil, {write(8, 1, on())}, {write(9, 2, on())}}, nil, [3]string{"off by default", "on by level 8", "on by level 9"}},
		{130, [][]api.Write{nil, {write(8, 1, on())}, {write(9, 3, off())}}, nil, [3]string{"off by default", "on by level 8", "on, minimum time, off by level 9"}},
		{131, [][]api.Write{nil, {write(8, 1, on())}, {write(9, 3, off())}}, []string{"fire"}, [3]string{"off, dead time, on by level 2", "off, interlock, on by level 8", "off by level 2"}},
		{140, [][]api.Write{nil, {write(8, 1, on())}, {write(9, 3, off())}}, []string{"fire"}, [3]string{"off, dead time, on by level 2", "off, interlock, on by level 8", "off by level 2"}},
		{141, [][]api.Write{nil, {write(8, 1, on())}, {write(9, 3, off())}}, []string{"fire"}, [3]string{"on by level 2", "off, interlock, on by level 8", "off by level 2"}},
	} {
		requests, e := safety.Request(table, c.arrays, c.modes, nil)
		if e != api.OK {
			t.Fatalf("Request at %d: %d", c.now, e)
		}
		next, list, e := safety.Step(table, s, requests, c.now)
		if e != api.OK {
			t.Fatalf("Step at %d: %d", c.now, e)
		}
		for i, want := range c.texts {
			if got := safety.Explain(table.Points[i], list[i]); got != want {
				t.Errorf("at %d, %s: %q, not %q", c.now, table.Points[i].Name, got, want)
			}
		}
		s = next
	}
}

func TestP16Memory(t *testing.T) {
	table, s, requests := hall(), start(t, 100), quiet(map[int]api.Request{indexA: turn(8, on())})
	arrays := make([][]api.Write, count)
	arrays[indexA] = []api.Write{write(9, 1, on()), write(8, 1, off())}
	modes, switches := []string{"smoke", "fire"}, []api.Setting{set("m", multi(2)), set("a", off())}
	first, list, _ := safety.Step(table, s, requests, 110)
	again, listAgain, _ := safety.Step(table, s, requests, 110)
	orders, _ := safety.Orders(table, modes)
	asked, _ := safety.Request(table, arrays, modes, switches)
	if !reflect.DeepEqual(table, hall()) || !reflect.DeepEqual(s, start(t, 100)) || !reflect.DeepEqual(requests, quiet(map[int]api.Request{indexA: turn(8, on())})) || !reflect.DeepEqual(modes, []string{"smoke", "fire"}) || !reflect.DeepEqual(switches, []api.Setting{set("m", multi(2)), set("a", off())}) || !reflect.DeepEqual(arrays[indexA], []api.Write{write(9, 1, on()), write(8, 1, off())}) {
		t.Error("an argument was changed")
	}
	first.Outputs[indexA], first.Left[0], list[0], orders[0], asked[0] = api.Driven{}, -5, safety.Result{}, api.Setting{}, api.Request{}
	if reflect.DeepEqual(first, again) || reflect.DeepEqual(list, listAgain) || !reflect.DeepEqual(s, start(t, 100)) || !reflect.DeepEqual(table, hall()) {
		t.Error("results share memory")
	}
	quietState, _, _ := safety.Step(table, s, quiet(nil), 110)
	quietState.Outputs[indexB], quietState.Left[0] = api.Driven{}, -5
	if !reflect.DeepEqual(s, start(t, 100)) {
		t.Error("Step's state shares memory with its argument")
	}
}
