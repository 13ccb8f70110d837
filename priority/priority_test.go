package priority_test

import (
	"math"
	"math/rand"
	"slices"
	"testing"

	"plenum/api"
	"plenum/priority"
)

// null, analog, binary and multi make values, write a write.
func null() api.Value          { return api.Value{} }
func analog(n int64) api.Value { return api.Value{Kind: api.Analog, N: n} }
func binary(n int64) api.Value { return api.Value{Kind: api.Binary, N: n} }
func multi(n int64) api.Value  { return api.Value{Kind: api.Multi, N: n} }

func write(level, seq int, v api.Value) api.Write {
	return api.Write{Level: level, Seq: seq, Value: v}
}

// possible and impossible are values, in the order of values.
func possible() []api.Value {
	return []api.Value{
		null(), analog(-api.MaxAnalog), analog(-api.MaxAnalog + 1), analog(-1), analog(0), analog(1), analog(21000), analog(api.MaxAnalog - 1), analog(api.MaxAnalog), binary(0), binary(1), multi(1), multi(2), multi(api.MaxStates - 1), multi(api.MaxStates),
	}
}

func impossible() []api.Value {
	return []api.Value{
		{N: 1}, {N: -1}, {N: math.MaxInt64}, {N: math.MinInt64}, analog(-api.MaxAnalog - 1), analog(api.MaxAnalog + 1), analog(math.MaxInt64), analog(math.MinInt64), binary(-1), binary(2), binary(math.MaxInt64), binary(math.MinInt64), multi(0), multi(-1), multi(api.MaxStates + 1), multi(math.MaxInt64), multi(math.MinInt64),
		{Kind: 4}, {Kind: -1}, {Kind: 4, N: 1}, {Kind: -1, N: 1}, {Kind: math.MaxInt, N: 1}, {Kind: math.MinInt, N: 1}, {Kind: 1 << 32}, {Kind: 1<<32 + 1, N: 1},
	}
}

// noLevels and noSeqs are numbers that are no levels and no sequence numbers.
func noLevels() []int {
	return []int{0, -1, 17, 18, 32, math.MaxInt, math.MinInt, 1<<32 + 1, 1<<62 + 1}
}

func noSeqs() []int { return []int{0, -1, api.MaxSeq + 1, math.MaxInt, math.MinInt, 1<<32 + 1} }

func TestP13_1Check(t *testing.T) {
	for level := 1; level <= 16; level++ {
		for _, seq := range []int{1, 2, api.MaxSeq / 2, api.MaxSeq - 1, api.MaxSeq} {
			for _, v := range possible() {
				if e := priority.Check(write(level, seq, v)); e != api.OK {
					t.Errorf("Check(%d, %d, %v): %d", level, seq, v, e)
				}
			}
			for _, v := range impossible() {
				if e := priority.Check(write(level, seq, v)); e != api.ErrType {
					t.Errorf("Check(%d, %d, %v): %d", level, seq, v, e)
				}
			}
		}
		for _, seq := range noSeqs() {
			for _, v := range append(possible(), impossible()...) {
				if e := priority.Check(write(level, seq, v)); e != api.ErrRange {
					t.Errorf("Check(%d, %d, %v): %d", level, seq, v, e)
				}
			}
		}
	}
	for _, level := range noLevels() {
		for _, seq := range append(noSeqs(), 1, api.MaxSeq) {
			for _, v := range append(possible(), impossible()...) {
				if e := priority.Check(write(level, seq, v)); e != api.ErrInvalid {
					t.Errorf("Check(%d, %d, %v): %d", level, seq, v, e)
				}
			}
		}
	}
}

// list is an array, with writes that have no effect.
func list() []api.Write {
	return []api.Write{
		write(16, 1, analog(19000)), write(8, 1, analog(21000)), write(0, 9, analog(1)), write(8, 1, analog(20999)), write(3, 2, null()), write(3, 1, analog(5)), write(17, 1, analog(4)), write(8, 9, multi(17)), write(16, 0, analog(3)), write(9, api.MaxSeq, analog(-1)), write(9, api.MaxSeq+1, analog(2)),
	}
}

// array is the array of list.
func array() []api.Write {
	return []api.Write{write(3, 2, null()), write(8, 1, analog(21000)), write(9, api.MaxSeq, analog(-1)), write(16, 1, analog(19000))}
}

func TestP13_1Of(t *testing.T) {
	if got := priority.Of(list()); !slices.Equal(got, array()) {
		t.Errorf("Of: %v", got)
	}
	if got := priority.Of(array()); !slices.Equal(got, array()) {
		t.Errorf("Of an array: %v", got)
	}
	// Each list stands for its last write.
	for _, l := range [][]api.Write{
		{write(1, 1, null())}, {write(8, 3, null()), write(8, 3, binary(0)), write(8, 3, binary(1))}, {write(8, 3, binary(1)), write(8, 4, null())}, {write(8, 1, multi(16)), write(8, 2, analog(-api.MaxAnalog))}, {write(16, 5, binary(1)), write(16, 5, multi(1))}, {write(16, 5, analog(api.MaxAnalog)), write(16, 5, binary(0))}, {write(2, 7, analog(-5)), write(2, 7, analog(-4)), write(2, 7, analog(0)), write(2, 7, analog(3))}, {write(1, api.MaxSeq-1, multi(2)), write(1, api.MaxSeq, multi(1))},
	} {
		want := l[len(l)-1:]
		if got := priority.Of(l); !slices.Equal(got, want) {
			t.Errorf("Of(%v): %v", l, got)
		}
		turned := slices.Clone(l)
		slices.Reverse(turned)
		if got := priority.Of(turned); !slices.Equal(got, want) {
			t.Errorf("Of(%v): %v", turned, got)
		}
	}
	for _, l := range [][]api.Write{nil, {}, {{}}, {write(0, 1, null()), write(17, 1, null()), write(1, 0, null()), write(1, 1, multi(0))}} {
		if got := priority.Of(l); len(got) != 0 {
			t.Errorf("Of(%v): %v", l, got)
		}
	}
	var full []api.Write
	for level := 16; level >= 1; level-- {
		full = append(full, write(level, level, multi(int64(level))))
	}
	got := priority.Of(full)
	slices.Reverse(full)
	if !slices.Equal(got, full) {
		t.Errorf("Of all levels: %v", got)
	}
}

func TestP13_1Join(t *testing.T) {
	for _, c := range []struct{ a, b, want []api.Write }{
		{nil, nil, nil}, {list(), nil, array()}, {nil, list(), array()}, {list(), list(), array()}, {list()[:1], list()[1:], array()}, {list()[2:], list()[:2], array()}, {[]api.Write{{}}, []api.Write{write(17, 1, null())}, nil},
		{array()[:2], array()[2:], array()}, {array()[2:], array()[:2], array()},
		{[]api.Write{write(4, 2, null())}, []api.Write{write(4, 1, binary(1))}, []api.Write{write(4, 2, null())}},
		{[]api.Write{write(4, 1, binary(1)), write(5, 3, binary(0))}, []api.Write{write(4, 1, null()), write(5, 3, binary(1))}, []api.Write{write(4, 1, binary(1)), write(5, 3, binary(1))}},
	} {
		if got := priority.Join(c.a, c.b); !slices.Equal(got, c.want) {
			t.Errorf("Join(%v, %v): %v, not %v", c.a, c.b, got, c.want)
		}
	}
}

func TestP13_2Slot(t *testing.T) {
	want := map[int]api.Value{8: analog(21000), 9: analog(-1), 16: analog(19000)}
	for level := 1; level <= 16; level++ {
		if v, e := priority.Slot(list(), level); v != want[level] || e != api.OK {
			t.Errorf("Slot %d: %v, %d", level, v, e)
		}
		if v, e := priority.Slot(nil, level); v != null() || e != api.OK {
			t.Errorf("Slot %d of nothing: %v, %d", level, v, e)
		}
	}
	for _, level := range noLevels() {
		if v, e := priority.Slot([]api.Write{write(level, 1, binary(1)), write(1, 1, binary(1)), write(16, 1, binary(1))}, level); v != null() || e != api.ErrInvalid {
			t.Errorf("Slot %d: %v, %d", level, v, e)
		}
	}
}

func TestP13_2Active(t *testing.T) {
	for _, otherwise := range append(possible(), impossible()...) {
		for _, c := range []struct {
			list  []api.Write
			level int
			want  api.Value
		}{
			{nil, 17, otherwise}, {list(), 8, analog(21000)}, {array(), 8, analog(21000)}, {array()[2:], 9, analog(-1)}, {array()[3:], 16, analog(19000)}, {array()[:1], 17, otherwise}, {[]api.Write{write(1, 1, binary(0))}, 1, binary(0)}, {[]api.Write{write(1, 1, binary(0)), write(1, 2, null()), write(2, 1, analog(0))}, 2, analog(0)}, {[]api.Write{write(0, 1, binary(0)), write(17, 1, binary(0)), write(5, 1, binary(5))}, 17, otherwise},
		} {
			if level, v := priority.Active(c.list, otherwise); level != c.level || v != c.want {
				t.Errorf("Active(%v): %d, %v, not %d, %v", c.list, level, v, c.level, c.want)
			}
		}
	}
}

func TestP13_2Under(t *testing.T) {
	for _, otherwise := range append(possible(), impossible()...) {
		for level := 0; level <= 16; level++ {
			wantLevel, want := 17, otherwise
			switch {
			case level < 8:
				wantLevel, want = 8, analog(21000)
			case level < 9:
				wantLevel, want = 9, analog(-1)
			case level < 16:
				wantLevel, want = 16, analog(19000)
			}
			if l, v, e := priority.Under(list(), level, otherwise); l != wantLevel || v != want || e != api.OK {
				t.Errorf("Under %d: %d, %v, %d", level, l, v, e)
			}
			if l, v, e := priority.Under(nil, level, otherwise); l != 17 || v != otherwise || e != api.OK {
				t.Errorf("Under %d of nothing: %d, %v, %d", level, l, v, e)
			}
		}
		for _, level := range noLevels() {
			if level == 0 {
				continue
			}
			if l, v, e := priority.Under(list(), level, otherwise); l != 0 || v != null() || e != api.ErrInvalid {
				t.Errorf("Under %d: %d, %v, %d", level, l, v, e)
			}
		}
	}
}

func TestP13_3Put(t *testing.T) {
	for _, c := range []struct {
		list  []api.Write
		level int
		v     api.Value
		want  []api.Write
	}{
		{nil, 1, binary(1), []api.Write{write(1, 1, binary(1))}}, {nil, 16, null(), []api.Write{write(16, 1, null())}}, {[]api.Write{{}}, 16, multi(16), []api.Write{write(16, 1, multi(16))}},
		{list(), 8, null(), []api.Write{write(3, 2, null()), write(8, 2, null()), array()[2], array()[3]}},
		{list(), 3, analog(7), []api.Write{write(3, 3, analog(7)), array()[1], array()[2], array()[3]}},
		{list(), 10, analog(7), []api.Write{array()[0], array()[1], array()[2], write(10, 1, analog(7)), array()[3]}},
		{list(), 16, analog(19000), []api.Write{array()[0], array()[1], array()[2], write(16, 2, analog(19000))}},
		{[]api.Write{write(5, api.MaxSeq-1, multi(3))}, 5, analog(-api.MaxAnalog), []api.Write{write(5, api.MaxSeq, analog(-api.MaxAnalog))}},
		{[]api.Write{write(5, api.MaxSeq+1, multi(3)), write(5, api.MaxSeq, multi(0))}, 5, analog(1), []api.Write{write(5, 1, analog(1))}},
	} {
		if got, e := priority.Put(c.list, c.level, c.v); !slices.Equal(got, c.want) || e != api.OK {
			t.Errorf("Put(%v, %d, %v): %v, %d", c.list, c.level, c.v, got, e)
		}
	}
	for level := 1; level <= 16; level++ {
		for _, v := range possible() {
			if got, e := priority.Put(nil, level, v); !slices.Equal(got, []api.Write{write(level, 1, v)}) || e != api.OK {
				t.Errorf("Put(%d, %v): %v, %d", level, v, got, e)
			}
		}
	}
}

func TestP13_3PutErrors(t *testing.T) {
	full := []api.Write{write(9, api.MaxSeq, null()), write(8, 1, binary(1))}
	for _, level := range noLevels() {
		for _, v := range append(possible(), impossible()...) {
			if got, e := priority.Put(full, level, v); len(got) != 0 || e != api.ErrInvalid {
				t.Errorf("Put(%d, %v): %v, %d", level, v, got, e)
			}
		}
	}
	for _, v := range impossible() {
		for _, level := range []int{1, 8, 9, 16} {
			if got, e := priority.Put(full, level, v); len(got) != 0 || e != api.ErrType {
				t.Errorf("Put(%d, %v): %v, %d", level, v, got, e)
			}
		}
	}
	for _, v := range possible() {
		if got, e := priority.Put(full, 9, v); len(got) != 0 || e != api.ErrTooMany {
			t.Errorf("Put(9, %v): %v, %d", v, got, e)
		}
		if got, e := priority.Put(full, 10, v); len(got) != 3 || e != api.OK {
			t.Errorf("Put(10, %v): %v, %d", v, got, e)
		}
	}
}

func TestP13_4Keep(t *testing.T) {
	a := array()
	for _, c := range []struct {
		levels []int
		want   []api.Write
	}{
		{nil, nil}, {[]int{}, nil}, {[]int{3}, a[:1]}, {[]int{3, 3, 3}, a[:1]}, {[]int{16, 8}, []api.Write{a[1], a[3]}}, {[]int{1, 2, 4, 5, 6, 7, 10}, nil}, {noLevels(), nil}, {append(noLevels(), 9), a[2:3]}, {[]int{16, 15, 14, 13, 12, 11, 10, 9, 8, 7, 6, 5, 4, 3, 2, 1, 1, 16}, a}, {[]int{9, 0, 8, 17, 3, -1, 16}, a},
	} {
		if got := priority.Keep(list(), c.levels); !slices.Equal(got, c.want) {
			t.Errorf("Keep(%v): %v, not %v", c.levels, got, c.want)
		}
		if got := priority.Keep(nil, c.levels); len(got) != 0 {
			t.Errorf("Keep(%v) of nothing: %v", c.levels, got)
		}
	}
}

// before is the order of writes, as the document defines it.
func before(a, b api.Write) bool {
	if a.Seq != b.Seq {
		return a.Seq < b.Seq
	}
	if a.Value.Kind != b.Value.Kind {
		return a.Value.Kind < b.Value.Kind
	}
	return a.Value.N < b.Value.N
}

// arrayOf is the array of a list, as the document defines it.
func arrayOf(list []api.Write) []api.Write {
	var found []api.Write
	for level := 1; level <= 16; level++ {
		var all []api.Write
		for _, w := range list {
			if w.Level == level && priority.Check(w) == api.OK {
				all = append(all, w)
			}
		}
		slices.SortFunc(all, func(a, b api.Write) int {
			if before(a, b) {
				return -1
			} else if before(b, a) {
				return 1
			}
			return 0
		})
		if len(all) > 0 {
			found = append(found, all[len(all)-1])
		}
	}
	return found
}

// some returns a random list of writes, of which a few are not possible.
func some(source *rand.Rand) []api.Write {
	values := append(possible(), null(), null(), binary(2), multi(0), api.Value{N: 1})
	var list []api.Write
	for range source.Intn(30) {
		list = append(list, write(source.Intn(20)-1, source.Intn(4), values[source.Intn(len(values))]))
	}
	return list
}

func TestP13_1Direct(t *testing.T) {
	source := rand.New(rand.NewSource(131))
	for range 20000 {
		a, b := some(source), some(source)
		if got, want := priority.Of(a), arrayOf(a); !slices.Equal(got, want) {
			t.Fatalf("Of(%v): %v, not %v", a, got, want)
		}
		if got, want := priority.Join(a, b), arrayOf(slices.Concat(a, b)); !slices.Equal(got, want) {
			t.Fatalf("Join(%v, %v): %v, not %v", a, b, got, want)
		}
		var levels []int
		for range source.Intn(10) {
			levels = append(levels, source.Intn(22)-2)
		}
		want := slices.DeleteFunc(arrayOf(a), func(w api.Write) bool { return !slices.Contains(levels, w.Level) })
		if got := priority.Keep(a, levels); !slices.Equal(got, want) {
			t.Fatalf("Keep(%v, %v): %v, not %v", a, levels, got, want)
		}
	}
}

func TestP13_5Join(t *testing.T) {
	source := rand.New(rand.NewSource(135))
	for range 20000 {
		a, b, c := some(source), some(source), some(source)
		if !slices.Equal(priority.Join(a, b), priority.Join(b, a)) || !slices.Equal(priority.Join(a, a), priority.Of(a)) {
			t.Fatalf("Join of %v and %v", a, b)
		}
		if !slices.Equal(priority.Join(priority.Join(a, b), c), priority.Join(a, priority.Join(b, c))) {
			t.Fatalf("Join of %v, %v and %v", a, b, c)
		}
		mixed := slices.Concat(a, b, a)
		source.Shuffle(len(mixed), func(i, j int) { mixed[i], mixed[j] = mixed[j], mixed[i] })
		if !slices.Equal(priority.Of(mixed), priority.Join(a, b)) {
			t.Fatalf("Of(%v)", mixed)
		}
	}
}

func TestP13_5Old(t *testing.T) {
	source := rand.New(rand.NewSource(136))
	for range 20000 {
		l := some(source)
		for _, w := range priority.Of(l) {
			old := write(w.Level, w.Seq-1-source.Intn(3), multi(16))
			if got := priority.Join(l, []api.Write{old}); !slices.Equal(got, priority.Of(l)) {
				t.Fatalf("Join(%v, %v): %v", l, old, got)
			}
			next := write(w.Level, w.Seq+1, null())
			if v, _ := priority.Slot(append(slices.Clone(l), next), w.Level); v != null() {
				t.Fatalf("%v after %v: %v", l, next, v)
			}
		}
	}
}

func TestP13_5Put(t *testing.T) {
	source := rand.New(rand.NewSource(137))
	for range 20000 {
		l, otherwise := some(source), analog(int64(source.Intn(9)))
		level, before := priority.Active(l, otherwise)
		at, v := 1+source.Intn(16), possible()[1+source.Intn(14)]
		put, e := priority.Put(l, at, v)
		newLevel, after := priority.Active(put, otherwise)
		if e != api.OK || at <= level && (newLevel != at || after != v) || at > level && (newLevel != level || after != before) {
			t.Fatalf("Put(%v, %d, %v): %v, %d; %d, %v", l, at, v, put, e, newLevel, after)
		}
		if level == 17 {
			continue
		}
		underLevel, under, _ := priority.Under(l, level, otherwise)
		free, e := priority.Put(l, level, null())
		if newLevel, after := priority.Active(free, otherwise); e != api.OK || newLevel != underLevel || after != under || newLevel <= level {
			t.Fatalf("Put(%v, %d, Null): %v, %d; %d, %v", l, level, free, e, newLevel, after)
		}
	}
}

func TestP13Examples(t *testing.T) {
	l := []api.Write{write(8, 1, analog(21000)), write(16, 1, analog(19000))}
	for under, want := range map[int]api.Write{0: l[0], 8: l[1], 16: write(17, 0, analog(20000))} {
		if level, v, e := priority.Under(l, under, analog(20000)); level != want.Level || v != want.Value || e != api.OK {
			t.Errorf("Under %d: %d, %v, %d", under, level, v, e)
		}
	}
	free, e := priority.Put(l, 8, null())
	want := []api.Write{write(8, 2, null()), write(16, 1, analog(19000))}
	if !slices.Equal(free, want) || e != api.OK || !slices.Equal(priority.Join(free, l[:1]), want) {
		t.Errorf("Put: %v, %d", free, e)
	}
}

func TestP13Memory(t *testing.T) {
	a, b, levels := list(), array(), []int{16, 8, 3}
	results := [][]api.Write{priority.Of(a), priority.Of(b), priority.Join(b, nil), priority.Join(nil, b), priority.Keep(b, levels), priority.Keep(b, levels)}
	put, _ := priority.Put(b, 3, null())
	results = append(results, put)
	priority.Slot(a, 8)
	priority.Active(a, null())
	priority.Under(a, 8, null())
	for i, r := range results {
		for j := range r {
			r[j] = write(1, i, binary(0))
		}
	}
	if !slices.Equal(a, list()) || !slices.Equal(b, array()) || !slices.Equal(levels, []int{16, 8, 3}) {
		t.Error("an argument was changed")
	}
	for i, r := range results {
		if r[0].Seq != i || r[len(r)-1].Seq != i {
			t.Error("results share memory")
		}
	}
	if got := priority.Of(a); !slices.Equal(got, array()) {
		t.Errorf("Of: %v", got)
	}
}
