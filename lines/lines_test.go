package lines_test

import (
	"math"
	"reflect"
	"slices"
	"testing"

	"plenum/api"
	"plenum/lines"
)

// line returns the line 7 with the tokens a, 5, B and a text, at the columns 1, 3, 5 and 7.
func line() api.Line {
	return api.Line{At: 7, Tokens: []api.Token{
		{Kind: api.TokWord, Text: "a", At: 1}, {Kind: api.TokNumber, N: 5000, At: 3}, {Kind: api.TokWord, Text: "B", At: 5}, {Kind: api.TokText, Text: "c", At: 7},
	}}
}

// fault makes a fault of line 7.
func fault(e api.Errno, col int) api.Fault { return api.Fault{Code: e, Line: 7, Col: col} }

// numberLine returns a line of one number.
func numberLine(n int64) api.Line {
	return api.Line{At: 7, Tokens: []api.Token{{Kind: api.TokNumber, N: n, At: 4}}}
}

func TestFaultAt(t *testing.T) {
	for i, col := range []int{1, 3, 5, 7, 7, 7} {
		if f := lines.FaultAt(line(), i, api.ErrName); f != fault(api.ErrName, col) {
			t.Errorf("FaultAt(%d): %v", i, f)
		}
	}
	if f := lines.FaultAtEnd(line(), api.ErrRange); f != fault(api.ErrRange, 7) {
		t.Errorf("FaultAtEnd: %v", f)
	}
	if f := lines.FaultAt(api.Line{At: 2}, 0, api.ErrRange); f != (api.Fault{Code: api.ErrRange, Line: 2, Col: 1}) {
		t.Errorf("FaultAt without tokens: %v", f)
	}
}

func TestReading(t *testing.T) {
	c := lines.NewCursor(line(), 0)
	if !c.More() || c.Name() != "a" || c.Number() != 5000 || c.OneOf("A", "B") != 2 {
		t.Errorf("the tokens are not read: %v", c.Fault())
	}
	if text := c.Take(func(t api.Token) bool { return t.Kind == api.TokText }); text.Text != "c" || c.More() {
		t.Errorf("Take: %v", text)
	}
	c.End()
	c.Alone()
	if f := c.Fault(); f != (api.Fault{}) {
		t.Errorf("a fault where there is none: %v", f)
	}
	c.Word()
	if f := c.Fault(); f != fault(api.ErrSyntax, 7) {
		t.Errorf("Word behind the end: %v", f)
	}
}

func TestFaults(t *testing.T) {
	for i, x := range []struct {
		passed int
		read   func(c *lines.Cursor)
		want   api.Fault
	}{
		{1, func(c *lines.Cursor) { c.Word() }, fault(api.ErrSyntax, 3)},
		{1, func(c *lines.Cursor) { c.Name() }, fault(api.ErrSyntax, 3)},
		{2, func(c *lines.Cursor) { c.Name() }, fault(api.ErrName, 5)},
		{3, func(c *lines.Cursor) { c.Word() }, fault(api.ErrSyntax, 7)},
		{0, func(c *lines.Cursor) { c.Number() }, fault(api.ErrSyntax, 1)},
		{0, func(c *lines.Cursor) { c.OneOf("A", "b") }, fault(api.ErrSyntax, 1)},
		{3, func(c *lines.Cursor) { c.OneOf("c") }, fault(api.ErrSyntax, 7)},
		{3, func(c *lines.Cursor) { c.End() }, fault(api.ErrSyntax, 7)},
		{2, func(c *lines.Cursor) { c.End() }, fault(api.ErrSyntax, 5)},
		{2, func(c *lines.Cursor) { c.Refuse(api.ErrState) }, fault(api.ErrState, 3)},
		{0, func(c *lines.Cursor) { c.Refuse(api.ErrState) }, fault(api.ErrState, 1)},
		// The first fault stays, and nothing is read behind it.
		{2, func(c *lines.Cursor) { c.Name(); c.Number(); c.Refuse(api.ErrState); c.End(); c.Alone() }, fault(api.ErrName, 5)},
		{9, func(c *lines.Cursor) { c.Number(); c.End() }, fault(api.ErrSyntax, 7)},
	} {
		c := lines.NewCursor(line(), x.passed)
		x.read(c)
		if f := c.Fault(); f != x.want {
			t.Errorf("%d: %v, not %v", i, f, x.want)
		}
		if c.More() || c.Word() != "" || c.Number() != 0 || c.OneOf("a", "B") != 0 {
			t.Errorf("%d: a token is read behind a fault", i)
		}
	}
}

func TestWholeNumbers(t *testing.T) {
	whole := func(c *lines.Cursor) int64 { return int64(c.Whole(100)) }
	count := func(c *lines.Cursor) int64 { return int64(c.Count(100)) }
	integer := func(c *lines.Cursor) int64 { return c.Integer() }
	for i, x := range []struct {
		read      func(c *lines.Cursor) int64
		good, bad []int64
	}{
		{whole, []int64{0, 1000, 60000, 100000}, []int64{-1, -1000, 1, 999, 1001, 100001, 101000, math.MaxInt64, math.MinInt64}},
		{count, []int64{1000, 60000, 100000}, []int64{0, -1, -1000, 1, 999, 1001, 100001, 101000, math.MaxInt64, math.MinInt64}},
		{integer, []int64{0, 1000, -1000, -60000, 101000, math.MaxInt64 / 1000 * 1000, math.MinInt64 / 1000 * 1000}, []int64{1, -1, 999, -1001, 100001, math.MaxInt64, math.MinInt64}},
	} {
		for _, n := range x.good {
			c := lines.NewCursor(numberLine(n), 0)
			if got := x.read(c); got != n/1000 || c.Fault() != (api.Fault{}) {
				t.Errorf("%d of %d: %d, %v", i, n, got, c.Fault())
			}
		}
		for _, n := range x.bad {
			c := lines.NewCursor(numberLine(n), 0)
			x.read(c)
			if f := c.Fault(); f != fault(api.ErrRange, 4) {
				t.Errorf("%d of %d: %v", i, n, f)
			}
		}
		for _, passed := range []int{0, 9} {
			c := lines.NewCursor(line(), passed)
			x.read(c)
			if f := c.Fault(); f.Code != api.ErrSyntax {
				t.Errorf("%d without a number: %v", i, f)
			}
		}
	}
}

func TestAlone(t *testing.T) {
	heading, parent, empty := line(), line(), api.Line{At: 7, Heading: true}
	heading.Heading = true
	parent.Kids = []api.Line{{}}
	for i, x := range []struct {
		l    api.Line
		want api.Fault
	}{{heading, fault(api.ErrSyntax, 7)}, {parent, fault(api.ErrSyntax, 7)}, {empty, fault(api.ErrSyntax, 1)}, {line(), api.Fault{}}} {
		c := lines.NewCursor(x.l, 0)
		c.Alone()
		if f := c.Fault(); f != x.want {
			t.Errorf("%d: %v, not %v", i, f, x.want)
		}
	}
}

func TestTokens(t *testing.T) {
	if w := lines.Word("a"); w != (api.Token{Kind: api.TokWord, Text: "a"}) {
		t.Errorf("Word: %v", w)
	}
	if list := lines.Words("a", "b"); !slices.Equal(list, []api.Token{lines.Word("a"), lines.Word("b")}) {
		t.Errorf("Words: %v", list)
	}
	if n := lines.Number(-5); n != (api.Token{Kind: api.TokNumber, N: -5}) {
		t.Errorf("Number: %v", n)
	}
	if n := lines.Whole(60); n != (api.Token{Kind: api.TokNumber, N: 60000}) {
		t.Errorf("Whole: %v", n)
	}
}

func TestMemory(t *testing.T) {
	l := line()
	c := lines.NewCursor(l, 0)
	for range 6 {
		c.Word()
	}
	if !reflect.DeepEqual(l, line()) {
		t.Error("a line was changed")
	}
}
