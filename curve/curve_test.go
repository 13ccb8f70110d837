package curve_test

import (
	"math"
	"math/big"
	"math/rand"
	"slices"
	"testing"

	"plenum/api"
	"plenum/curve"
)

const limit = api.MaxAnalog

// example is the curve of the chapter.
func example() []api.Knot {
	return []api.Knot{{X: 0, Y: 20000}, {X: 10000, Y: 20000}, {X: 20000, Y: 15000}, {X: 30000, Y: 10000}}
}

// through returns the knots of the coordinates x, y, x, y ..
func through(coordinates ...int64) []api.Knot {
	var c []api.Knot
	for i := 0; i < len(coordinates); i += 2 {
		c = append(c, api.Knot{X: coordinates[i], Y: coordinates[i+1]})
	}
	return c
}

// stairs returns a curve with n knots.
func stairs(n int) []api.Knot {
	var c []api.Knot
	for i := range int64(n) {
		c = append(c, api.Knot{X: i * 10, Y: i * i})
	}
	return c
}

// random returns a curve whose coordinates are small, or anywhere within the limits.
func random(source *rand.Rand, small bool) []api.Knot {
	coordinate := func() int64 {
		switch {
		case small:
			return source.Int63n(31) - 15
		case source.Intn(8) == 0:
			return limit * (2*source.Int63n(2) - 1)
		}
		return source.Int63n(2*limit+1) - limit
	}
	var xs []int64
	for range 1 + source.Intn(7) {
		xs = append(xs, coordinate())
	}
	slices.Sort(xs)
	var c []api.Knot
	for _, x := range slices.Compact(xs) {
		c = append(c, api.Knot{X: x, Y: coordinate()})
	}
	return c
}

// rising returns the curve with its Y sorted.
func rising(c []api.Knot) []api.Knot {
	var ys []int64
	for _, k := range c {
		ys = append(ys, k.Y)
	}
	slices.Sort(ys)
	up := slices.Clone(c)
	for i := range up {
		up[i].Y = ys[i]
	}
	return up
}

// exact is the exact value of a curve, as the chapter defines it.
func exact(c []api.Knot, x int64) *big.Rat {
	last := c[len(c)-1]
	if x <= c[0].X {
		return big.NewRat(c[0].Y, 1)
	}
	if x >= last.X {
		return big.NewRat(last.Y, 1)
	}
	i := 0
	for c[i+1].X <= x {
		i++
	}
	y := new(big.Rat).Mul(big.NewRat(c[i+1].Y-c[i].Y, c[i+1].X-c[i].X), big.NewRat(x-c[i].X, 1))
	return y.Add(y, big.NewRat(c[i].Y, 1))
}

// rounded is the nearest integer, of two the one farther from zero.
func rounded(r *big.Rat) int64 {
	size := new(big.Rat).Abs(r)
	size.Add(size, big.NewRat(1, 2))
	n := new(big.Int).Quo(size.Num(), size.Denom())
	return int64(r.Sign()) * n.Int64()
}

// at is Eval of what must be a curve.
func at(t *testing.T, c []api.Knot, x int64) int64 {
	t.Helper()
	y, e := curve.Eval(c, x)
	if e != api.OK {
		t.Fatalf("Eval of %v at %d: %d", c, x, e)
	}
	return y
}

// fails checks that every function returns an error for the knots, and nothing else.
func fails(t *testing.T, c []api.Knot, want api.Errno) {
	t.Helper()
	if e := curve.Check(c); e != want {
		t.Errorf("Check of %v: %d, not %d", c, e, want)
	}
	if y, e := curve.Eval(c, 1); y != 0 || e != want {
		t.Errorf("Eval of %v: %d, %d", c, y, e)
	}
	if d, e := curve.Direction(c); d != 0 || e != want {
		t.Errorf("Direction of %v: %d, %d", c, d, e)
	}
	for _, y := range []int64{-1, math.MaxInt64} { // the other errors of Inverse come later
		if x, e := curve.Inverse(c, y); x != 0 || e != want {
			t.Errorf("Inverse of %v: %d, %d", c, x, e)
		}
	}
	for _, hi := range []int64{-1, 1} {
		if s, e := curve.Bounds(c, 0, hi); s != (api.Span{}) || e != want {
			t.Errorf("Bounds of %v: %v, %d", c, s, e)
		}
	}
	for _, d := range []int64{0, 1, math.MaxInt64} {
		if m, e := curve.Shift(c, d, d); len(m) != 0 || e != want {
			t.Errorf("Shift of %v: %v, %d", c, m, e)
		}
	}
	if s, e := curve.Simplify(c); len(s) != 0 || e != want {
		t.Errorf("Simplify of %v: %v, %d", c, s, e)
	}
	if h, l, e := curve.Area(c); h != 0 || l != 0 || e != want {
		t.Errorf("Area of %v: %d, %d, %d", c, h, l, e)
	}
}

func TestP3_1Check(t *testing.T) {
	for _, c := range [][]api.Knot{
		example(), through(0, 0), through(-limit, -limit), through(-limit, limit, limit, -limit), through(5, 7, 6, 7), stairs(curve.MaxKnots),
	} {
		if e := curve.Check(c); e != api.OK {
			t.Errorf("Check of %v: %d", c, e)
		}
	}
}

func TestP3_1Errors(t *testing.T) {
	fails(t, nil, api.ErrInvalid)
	fails(t, []api.Knot{}, api.ErrInvalid)
	fails(t, stairs(33), api.ErrInvalid)
	fails(t, make([]api.Knot, 33), api.ErrInvalid)
	fails(t, make([]api.Knot, 5000), api.ErrInvalid)
	fails(t, slices.Repeat(through(limit+1, 0), 33), api.ErrInvalid)
	for _, far := range []int64{limit + 1, -limit - 1, math.MaxInt64, math.MinInt64} {
		fails(t, through(far, 0), api.ErrRange)
		fails(t, through(0, far), api.ErrRange)
		fails(t, through(0, 0, 1, 0, far, 0), api.ErrRange)
		fails(t, through(0, 0, 0, 0, 1, far), api.ErrRange) // and a duplicate before it
	}
	fails(t, through(1, 2, 1, 2), api.ErrDuplicate)
	fails(t, through(1, 2, 1, 3), api.ErrDuplicate)
	fails(t, through(0, 0, 1, 1, 2, 2, 1, 3), api.ErrDuplicate)
	fails(t, through(limit, 0, -limit, 0), api.ErrDuplicate)
	fails(t, through(2, 0, 1, 0, 3, 0), api.ErrDuplicate)
	fails(t, make([]api.Knot, 32), api.ErrDuplicate)
}

func TestP3_1EvalExamples(t *testing.T) {
	for x, want := range map[int64]int64{
		math.MinInt64: 20000, -5: 20000, 0: 20000, 1: 20000, 9999: 20000, 10000: 20000, 10001: 20000, 10002: 19999, 15000: 17500,
		19999: 15001, 20000: 15000, 20001: 15000, 20002: 14999, 29999: 10001, 30000: 10000, 40000: 10000, math.MaxInt64: 10000,
	} {
		if y := at(t, example(), x); y != want {
			t.Errorf("the value at %d: %d, not %d", x, y, want)
		}
	}
	for _, x := range []int64{math.MinInt64, -limit - 1, -7, 0, 3, 4, limit + 1, math.MaxInt64} {
		if y := at(t, through(3, -8), x); y != -8 {
			t.Errorf("the only knot at %d: %d", x, y)
		}
		if y := at(t, through(-limit, 2, limit, 2), x); y != 2 {
			t.Errorf("a constant curve at %d: %d", x, y)
		}
	}
	for _, r := range []struct {
		c       []api.Knot
		x, want int64
	}{
		{through(0, 0, 2, 1), 1, 1}, {through(0, 0, 2, -1), 1, -1}, {through(0, -1, 2, 0), 1, -1}, {through(0, 1, 2, 0), 1, 1}, {through(0, -1, 3, 1), 1, 0},
		{through(-limit, -limit, limit, limit), 1234567, 1234567}, {through(-limit, limit, limit, limit-1), limit - 1, limit - 1}, {through(-limit, limit, limit, limit-1), -limit + 1, limit}, {through(-limit, limit, limit, limit-1), 0, limit},
	} {
		if y := at(t, r.c, r.x); y != r.want {
			t.Errorf("the value of %v at %d: %d, not %d", r.c, r.x, y, r.want)
		}
	}
}

func TestP3_1EvalIsExact(t *testing.T) {
	source := rand.New(rand.NewSource(1))
	for n := range 20000 {
		c := random(source, n%2 == 0)
		xs := []int64{source.Int63n(61) - 30, source.Int63n(2*limit+1) - limit, int64(source.Uint64())}
		for _, k := range c {
			xs = append(xs, k.X-1, k.X, k.X+1)
		}
		for _, x := range xs {
			if got, want := at(t, c, x), rounded(exact(c, x)); got != want {
				t.Fatalf("the value of %v at %d: %d, not %d", c, x, got, want)
			}
		}
	}
	full := stairs(curve.MaxKnots)
	for x := int64(-5); x < 330; x++ {
		if got, want := at(t, full, x), rounded(exact(full, x)); got != want {
			t.Errorf("the value of the full curve at %d: %d, not %d", x, got, want)
		}
	}
}

func TestP3_1Direction(t *testing.T) {
	for _, r := range []struct {
		c    []api.Knot
		want int
	}{
		{example(), -1}, {example()[:2], 0}, {example()[:1], 0}, {through(0, 5, 1, 5, 2, 5), 0},
		{through(0, 5, 1, 6), 1}, {through(0, 5, 1, 4), -1}, {through(0, 5, 1, 5, 2, 6, 3, 6), 1}, {through(0, 5, 1, 5, 2, 4, 3, 4), -1},
		{through(0, 5, 1, 6, 2, 5), 2}, {through(0, 5, 1, 4, 2, 5), 2}, {through(0, 5, 1, 4, 2, 4, 3, 9), 2}, {through(0, 1, 1, 2, 2, 3, 3, 2), 2},
		{through(-limit, -limit, limit, limit), 1}, {through(-limit, limit, limit, -limit), -1},
	} {
		if d, e := curve.Direction(r.c); d != r.want || e != api.OK {
			t.Errorf("the direction of %v: %d, %d", r.c, d, e)
		}
	}
}

func TestP3_2Examples(t *testing.T) {
	stairs := through(0, 0, 1000, 3, 2000, 3, 2001, 9)
	for _, r := range []struct {
		c       []api.Knot
		y, want int64
	}{
		{through(0, 0, 1000, 3), 1, 167}, {stairs, -7, 0}, {stairs, 0, 0}, {stairs, 1, 167}, {stairs, 2, 500}, {stairs, 3, 834}, {stairs, 4, 2001}, {stairs, 9, 2001}, {stairs, math.MinInt64, 0},
		{through(0, 0, 2, 1), 1, 1}, {through(0, -1, 2, 0), 0, 2}, {through(0, -2, 4, -1), -1, 3}, // -1.5 is rounded to -2
		{through(-7, 4), 4, -7}, {through(-7, 4), 3, -7}, {through(-7, 4), -limit, -7},
		{through(3, 5, 9, 5), 5, 3}, {through(3, 5, 9, 5), 4, 3}, {through(3, 5, 9, 5, 12, 5), -5, 3},
		{through(0, 5, 9, 5, 10, 7), 5, 0}, {through(0, 5, 9, 5, 10, 7), 6, 10},
		{through(-limit, -limit, limit, limit), 12345, 12345}, {through(-limit, -limit, limit, limit), limit, limit}, {through(-limit, -limit, limit, limit), -limit, -limit},
		{through(-limit, 0, limit, 1), 1, 0}, {through(-limit, 0, limit, limit), 1, -limit + 1},
	} {
		if x, e := curve.Inverse(r.c, r.y); x != r.want || e != api.OK {
			t.Errorf("Inverse of %v and %d: %d, %d, not %d", r.c, r.y, x, e, r.want)
		}
	}
}

func TestP3_2Errors(t *testing.T) {
	for _, r := range []struct {
		c    []api.Knot
		y    int64
		want api.Errno
	}{
		{through(0, 0, 1, 9), 10, api.ErrNone}, {through(0, 0, 1, 9), math.MaxInt64, api.ErrNone}, {through(0, 7), 8, api.ErrNone}, {through(0, 7, 1, 7), 8, api.ErrNone},
		{example(), 10, api.ErrState}, {example(), 20001, api.ErrState}, {example(), 10000, api.ErrState}, {through(0, 0, 1, 2, 2, 1), 1, api.ErrState}, {through(0, 2, 1, 1, 2, 3), 4, api.ErrState},
	} {
		if x, e := curve.Inverse(r.c, r.y); x != 0 || e != r.want {
			t.Errorf("Inverse of %v and %d: %d, %d, not %d", r.c, r.y, x, e, r.want)
		}
	}
}

func TestP3_2IsLeast(t *testing.T) {
	source := rand.New(rand.NewSource(2))
	for n := range 20000 {
		c := rising(random(source, n%2 == 0))
		last := c[len(c)-1]
		y := min(c[source.Intn(len(c))].Y+source.Int63n(9)-4, last.Y)
		x, e := curve.Inverse(c, y)
		if e != api.OK || x < c[0].X || x > last.X {
			t.Fatalf("Inverse of %v and %d: %d, %d", c, y, x, e)
		}
		if at(t, c, x) < y || x > c[0].X && at(t, c, x-1) >= y {
			t.Fatalf("Inverse of %v and %d is not %d", c, y, x)
		}
	}
}

func TestP3_3(t *testing.T) {
	roof := through(0, 0, 10, 50, 20, 0)
	for _, r := range []struct {
		c      []api.Knot
		lo, hi int64
		want   api.Span
	}{
		{example(), 5000, 20000, api.Span{Lo: 15000, Hi: 20000}}, {example(), -5, 5, api.Span{Lo: 20000, Hi: 20000}}, {example(), 30000, 40000, api.Span{Lo: 10000, Hi: 10000}},
		{roof, 5, 15, api.Span{Lo: 25, Hi: 50}}, {roof, 5, 9, api.Span{Lo: 25, Hi: 45}}, {roof, 5, 10, api.Span{Lo: 25, Hi: 50}}, {roof, 10, 15, api.Span{Lo: 25, Hi: 50}}, {roof, 11, 15, api.Span{Lo: 25, Hi: 45}}, {roof, 7, 7, api.Span{Lo: 35, Hi: 35}}, {roof, 10, 10, api.Span{Lo: 50, Hi: 50}},
		{roof, math.MinInt64, math.MaxInt64, api.Span{Hi: 50}}, {roof, math.MinInt64, math.MinInt64, api.Span{}}, {roof, math.MaxInt64, math.MaxInt64, api.Span{}}, {roof, 4, math.MaxInt64, api.Span{Hi: 50}}, {roof, -9, 2, api.Span{Hi: 10}},
		{through(0, 0, 10, -50, 20, 0), 5, 15, api.Span{Lo: -50, Hi: -25}}, {through(3, 7), -1, 1, api.Span{Lo: 7, Hi: 7}}, {through(-limit, -limit, limit, limit), -limit - 1, limit + 1, api.Span{Lo: -limit, Hi: limit}},
	} {
		if s, e := curve.Bounds(r.c, r.lo, r.hi); s != r.want || e != api.OK {
			t.Errorf("Bounds of %v from %d to %d: %v, %d", r.c, r.lo, r.hi, s, e)
		}
	}
	for _, r := range [][2]int64{{1, 0}, {math.MaxInt64, math.MinInt64}, {-4, -5}, {limit + 2, limit + 1}} {
		if s, e := curve.Bounds(roof, r[0], r[1]); s != (api.Span{}) || e != api.ErrInvalid {
			t.Errorf("Bounds from %d to %d: %v, %d", r[0], r[1], s, e)
		}
	}
}

func TestP3_3OfAllIntegers(t *testing.T) {
	source := rand.New(rand.NewSource(3))
	for range 5000 {
		c := random(source, true)
		lo := source.Int63n(41) - 20
		hi := lo + source.Int63n(30)
		want := api.Span{Lo: at(t, c, lo), Hi: at(t, c, lo)}
		for x := lo; x <= hi; x++ {
			want.Lo, want.Hi = min(want.Lo, at(t, c, x)), max(want.Hi, at(t, c, x))
		}
		if s, e := curve.Bounds(c, lo, hi); s != want || e != api.OK {
			t.Fatalf("Bounds of %v from %d to %d: %v, %d, not %v", c, lo, hi, s, e, want)
		}
	}
}

func TestP3_4(t *testing.T) {
	c := example()
	moved, e := curve.Shift(c, 5, -1)
	if e != api.OK || !slices.Equal(moved, through(5, 19999, 10005, 19999, 20005, 14999, 30005, 9999)) {
		t.Errorf("Shift: %v, %d", moved, e)
	}
	moved[0] = api.Knot{X: 77, Y: 77}
	if !slices.Equal(c, example()) {
		t.Errorf("the argument became %v", c)
	}
	same, e := curve.Shift(c, 0, 0)
	if e != api.OK || !slices.Equal(same, c) {
		t.Errorf("Shift by 0: %v, %d", same, e)
	}
	same[0].X = -1
	if c[0].X != 0 {
		t.Error("a curve that is not moved is no copy")
	}
	for _, r := range []struct {
		c      []api.Knot
		dx, dy int64
		want   []api.Knot
	}{
		{through(1, 2), limit - 1, limit - 2, through(limit, limit)}, {through(1, 2), -limit - 1, -limit - 2, through(-limit, -limit)}, {through(-limit, limit), 2 * limit, -2 * limit, through(limit, -limit)},
	} {
		if m, e := curve.Shift(r.c, r.dx, r.dy); e != api.OK || !slices.Equal(m, r.want) {
			t.Errorf("Shift of %v by %d and %d: %v, %d", r.c, r.dx, r.dy, m, e)
		}
	}
}

func TestP3_4Errors(t *testing.T) {
	wide := through(-limit, -limit, limit, limit)
	for _, r := range []struct {
		c      []api.Knot
		dx, dy int64
	}{
		{wide, 1, 0}, {wide, -1, 0}, {wide, 0, 1}, {wide, 0, -1}, {through(1, 2), limit, 0}, {through(1, 2), 0, limit - 1}, {through(1, 2), -limit - 2, 0}, {through(1, 2), 0, -limit - 3},
		{wide, math.MaxInt64, 0}, {wide, math.MinInt64, 0}, {wide, 0, math.MaxInt64}, {wide, 0, math.MinInt64}, {wide, math.MaxInt64, math.MinInt64},
		{through(limit, limit), math.MaxInt64, 0}, {through(limit, limit), 0, math.MaxInt64}, {through(-limit, -limit), math.MinInt64, 0}, {through(-limit, -limit), 0, math.MinInt64},
		{through(0, 0, 10, 0), math.MaxInt64 - 5, 0}, // one wraps around, and the other one does not
	} {
		if m, e := curve.Shift(r.c, r.dx, r.dy); len(m) != 0 || e != api.ErrRange {
			t.Errorf("Shift of %v by %d and %d: %v, %d", r.c, r.dx, r.dy, m, e)
		}
	}
}

// needless is the definition of what can be left out.
func needless(c []api.Knot, i int) bool {
	switch last := len(c) - 1; {
	case last == 0:
		return false
	case i == 0:
		return c[0].Y == c[1].Y
	case i == last:
		return c[last].Y == c[last-1].Y
	}
	line := []api.Knot{c[i-1], c[i+1]}
	return exact(line, c[i].X).Cmp(big.NewRat(c[i].Y, 1)) == 0
}

// simplified is the definition of Simplify.
func simplified(c []api.Knot) []api.Knot {
	for i := range c {
		if needless(c, i) {
			return simplified(slices.Concat(c[:i], c[i+1:]))
		}
	}
	return c
}

func TestP3_5Examples(t *testing.T) {
	const b = 1 << 32
	for _, r := range []struct{ c, want []api.Knot }{
		{example(), through(10000, 20000, 30000, 10000)},
		{through(4, 5), through(4, 5)},
		{through(1, 7, 2, 7), through(2, 7)}, {through(1, 7, 2, 7, 5, 7), through(5, 7)}, {through(1, 7, 2, 8), through(1, 7, 2, 8)},
		{through(0, 0, 1, 1, 2, 1, 3, 1), through(0, 0, 1, 1)}, {through(0, 0, 1, 1, 2, 2), through(0, 0, 2, 2)}, {through(0, 0, 1, 1, 2, 3), through(0, 0, 1, 1, 2, 3)},
		{through(0, 0, 1, 1, 2, 2, 3, 2), through(0, 0, 2, 2)}, {through(0, 0, 1, 5, 2, 5, 3, 0), through(0, 0, 1, 5, 2, 5, 3, 0)},
		{through(0, 1, 1, 1, 2, 1, 3, 0), through(2, 1, 3, 0)}, {through(-9, 3, -6, 2, 0, 0, 3, -1), through(-9, 3, 3, -1)},
		{through(0, 0, 3, 1, 6, 3, 9, 4), through(0, 0, 3, 1, 6, 3, 9, 4)},
		{through(-limit, -limit, 0, 0, limit, limit), through(-limit, -limit, limit, limit)}, {through(-limit, -limit, 0, 1, limit, limit), through(-limit, -limit, 0, 1, limit, limit)},
		// The products of the distances differ by 2^64 only.
		{through(0, 0, b, b, 2*b, b, 3*b, 0), through(0, 0, b, b, 2*b, b, 3*b, 0)},
	} {
		before := slices.Clone(r.c)
		if s, e := curve.Simplify(r.c); e != api.OK || !slices.Equal(s, r.want) {
			t.Errorf("Simplify of %v: %v, %d, not %v", r.c, s, e, r.want)
		}
		if !slices.Equal(r.c, before) {
			t.Errorf("the argument %v became %v", before, r.c)
		}
	}
	c := through(0, 0, 1, 5)
	if s, _ := curve.Simplify(c); &s[0] == &c[0] {
		t.Error("a curve of which nothing is left out is no copy")
	}
}

func TestP3_5IsDefinition(t *testing.T) {
	source := rand.New(rand.NewSource(4))
	for n := range 20000 {
		c := random(source, n%8 != 0)
		if n%2 == 0 { // more knots on a line
			for i := range c {
				c[i].Y = c[i].Y/8 + c[i].X
			}
			if curve.Check(c) != api.OK {
				continue
			}
		}
		want := simplified(c)
		if s, e := curve.Simplify(c); e != api.OK || !slices.Equal(s, want) {
			t.Fatalf("Simplify of %v: %v, %d, not %v", c, s, e, want)
		}
	}
}

// doubleArea is the definition of twice the area.
func doubleArea(c []api.Knot) *big.Int {
	sum := new(big.Int)
	for i := 1; i < len(c); i++ {
		sum.Add(sum, new(big.Int).Mul(big.NewInt(c[i].X-c[i-1].X), big.NewInt(c[i].Y+c[i-1].Y)))
	}
	return sum
}

func TestP3_6(t *testing.T) {
	for _, r := range []struct {
		c         []api.Knot
		high, low int64
	}{
		{through(0, 0, 1000, 3), 0, 3000}, {through(8, 9), 0, 0}, {through(-limit, -limit), 0, 0}, {through(0, 1, 3, 0), 0, 3}, {through(0, -1, 3, 0), -1, 999999999997}, {through(0, 5, 7, -5), 0, 0},
		{through(-limit, limit, limit, limit), 4000000000000, 0}, {through(-limit, -limit, limit, -limit), -4000000000000, 0}, {through(-limit, -limit, limit, -limit+1), -4000000000000 + 2, 0},
		{through(0, limit, 1, 0), 1, 0}, {through(0, -limit, 1, 0), -1, 0}, {through(0, -limit, 1, -1), -2, 999999999999}, {through(0, limit, 1, -1), 0, 999999999999},
		{example(), 0, 2*10000*20000 + 10000*35000 + 10000*25000},
	} {
		if h, l, e := curve.Area(r.c); h != r.high || l != r.low || e != api.OK {
			t.Errorf("Area of %v: %d, %d, %d", r.c, h, l, e)
		}
	}
	source := rand.New(rand.NewSource(5))
	for n := range 20000 {
		c := random(source, n%4 == 0)
		h, l, e := curve.Area(c)
		got := new(big.Int).Mul(big.NewInt(h), big.NewInt(1000000000000))
		got.Add(got, big.NewInt(l))
		if e != api.OK || l < 0 || l >= 1000000000000 || got.Cmp(doubleArea(c)) != 0 {
			t.Fatalf("Area of %v: %d, %d, %d, not %d", c, h, l, e, doubleArea(c))
		}
	}
}

func TestP3_7Values(t *testing.T) {
	source := rand.New(rand.NewSource(6))
	for n := range 5000 {
		c := random(source, n%2 == 0)
		direction, _ := curve.Direction(c)
		all := api.Span{Lo: c[0].Y, Hi: c[0].Y}
		simple, _ := curve.Simplify(c)
		for _, k := range c {
			if y := at(t, c, k.X); y != k.Y {
				t.Fatalf("%v has the value %d at %d", c, y, k.X)
			}
			all.Lo, all.Hi = min(all.Lo, k.Y), max(all.Hi, k.Y)
		}
		x := c[0].X - 3
		last := at(t, c, x)
		for range 50 {
			x += 1 + source.Int63n(1+(c[len(c)-1].X-c[0].X)/40)
			y := at(t, c, x)
			if y < all.Lo || y > all.Hi {
				t.Fatalf("%v has the value %d at %d", c, y, x)
			}
			if direction == 1 && y < last || direction == -1 && y > last || direction == 0 && y != last {
				t.Fatalf("%v with the direction %d goes from %d to %d", c, direction, last, y)
			}
			if at(t, simple, x) != y {
				t.Fatalf("%v has another value than %v at %d", simple, c, x)
			}
			last = y
		}
		for i := range simple {
			if needless(simple, i) {
				t.Fatalf("%v can be left out of %v", simple[i], simple)
			}
		}
	}
}

func TestP3_7Moved(t *testing.T) {
	source := rand.New(rand.NewSource(7))
	for range 5000 {
		c, dx := random(source, true), source.Int63n(2001)-1000
		moved, e := curve.Shift(c, dx, 0)
		if e != api.OK {
			t.Fatal(e)
		}
		for x := int64(-20); x < 20; x++ {
			if at(t, c, x) != at(t, moved, x+dx) {
				t.Fatalf("%v, moved by %d, has another value at %d", c, dx, x+dx)
			}
		}
		before, _ := curve.Direction(c)
		after, _ := curve.Direction(moved)
		high, low, _ := curve.Area(c)
		movedHigh, movedLow, _ := curve.Area(moved)
		if before != after || high != movedHigh || low != movedLow {
			t.Fatalf("%v, moved by %d, has another direction or area", c, dx)
		}
	}
}
