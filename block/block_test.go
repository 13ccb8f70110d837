package block_test

import (
	"math"
	"slices"
	"strconv"
	"strings"
	"testing"

	"plenum/api"
	"plenum/block"
)

// table is the library, as the document has it.
const table = `
| above | a: U, b: U | none | binary | 0 |
| abs | a: U | none | U | 0 |
| add | a: U, b: U | none | U | 0 |
| and | a: binary, b: binary (the last one up to 7 times) | none | binary | 0 |
| below | a: U, b: U | none | binary | 0 |
| choose | m: multi, a: T (the last one up to 7 times) | none | T | 0 |
| count | a: binary, reset: binary | none | analog | 2 |
| dewpoint | t: analog degC, rh: analog pct | none | analog degC | 0 |
| div | a: U, b: V | none | U/V | 0 |
| edge | a: binary | none | binary | 1 |
| enthalpy | t: analog degC, rh: analog pct | none | analog kJ/kg | 0 |
| hyst | a: U | on: -MaxAnalog to MaxAnalog, 1000; off: -MaxAnalog to MaxAnalog, 0 | binary | 1 |
| latch | set: binary, reset: binary | none | binary | 1 |
| limit | a: U | low: -MaxAnalog to MaxAnalog, -MaxAnalog; high: -MaxAnalog to MaxAnalog, MaxAnalog | U | 0 |
| line | a: U | x1: -MaxAnalog to MaxAnalog, 0; y1: -MaxAnalog to MaxAnalog, 0; x2: -MaxAnalog to MaxAnalog, 100000; y2: -MaxAnalog to MaxAnalog, 100000 | analog | 0 |
| max | a: U, b: U | none | U | 0 |
| mean | a: U, b: U (the last one up to 7 times) | none | U | 0 |
| min | a: U, b: U | none | U | 0 |
| minrun | a: binary | on: 0 to DaySeconds, 0; off: 0 to DaySeconds, 0 | binary | 2 |
| mul | a: U, b: V | none | U*V | 0 |
| neg | a: U | none | U | 0 |
| not | a: binary | none | binary | 0 |
| offdelay | a: binary | time: 0 to DaySeconds, 0 | binary | 1 |
| ondelay | a: binary | time: 0 to DaySeconds, 0 | binary | 1 |
| or | a: binary, b: binary (the last one up to 7 times) | none | binary | 0 |
| pick | s: binary, a: T, b: T | none | T | 0 |
| pid | set: U, now: U, enable: binary | kp: 0 to 1000000000, 1000; ti: 0 to DaySeconds, 0; low: -MaxAnalog to MaxAnalog, 0; high: -MaxAnalog to MaxAnalog, 100000; reverse: 0 to 1, 0 | analog pct | 3 |
| pulse | a: binary | time: 0 to DaySeconds, 0 | binary | 2 |
| rate | a: U | up: 0 to MaxAnalog, 1000; down: 0 to MaxAnalog, 1000 | U | 2 |
| stage | a: U | stages: 1 to 15, 1; up: -MaxAnalog to MaxAnalog, 0; down: -MaxAnalog to MaxAnalog, 0; updelay: 0 to DaySeconds, 0; downdelay: 0 to DaySeconds, 0 | multi | 2 |
| steps | go: binary, next: binary | count: 1 to 15, 1; least: 0 to DaySeconds, 0 | multi | 2 |
| sub | a: U, b: U | none | U | 0 |
| xor | a: binary, b: binary | none | binary | 0 |
`

// repeated stands behind the inputs of the blocks whose last input may be repeated.
const repeated = " (the last one up to 7 times)"

// number returns a number of the table.
func number(s string) int64 {
	digits, isNegative := strings.CutPrefix(s, "-")
	n, isNamed := map[string]int64{"MaxAnalog": api.MaxAnalog, "DaySeconds": api.DaySeconds}[digits]
	if !isNamed {
		var err error
		if n, err = strconv.ParseInt(digits, 10, 64); err != nil {
			panic(err)
		}
	}
	if isNegative {
		return -n
	}
	return n
}

// blocks returns the descriptors that the table describes.
func blocks() []api.Descriptor {
	var list []api.Descriptor
	for _, line := range strings.Split(strings.TrimSpace(table), "\n") {
		cells := strings.Split(strings.Trim(line, "| "), " | ")
		d := api.Descriptor{Name: cells[0], Outputs: []api.Port{{Name: "out", Type: cells[3]}}, State: int(number(cells[4])), Most: 1}
		inputs, isRepeated := strings.CutSuffix(cells[1], repeated)
		if isRepeated {
			d.Most = 7
		}
		for _, input := range strings.Split(inputs, ", ") {
			name, text, _ := strings.Cut(input, ": ")
			d.Inputs = append(d.Inputs, api.Port{Name: name, Type: text})
		}
		for _, param := range strings.Split(cells[2], "; ") {
			if param == "none" {
				continue
			}
			name, rest, _ := strings.Cut(param, ": ")
			ends, usual, _ := strings.Cut(rest, ", ")
			lo, hi, _ := strings.Cut(ends, " to ")
			d.Params = append(d.Params, api.Bound{Name: name, Lo: number(lo), Hi: number(hi), Default: number(usual)})
		}
		list = append(list, d)
	}
	return list
}

// areSame reports whether two descriptors are the same.
func areSame(a, b api.Descriptor) bool {
	return a.Name == b.Name && slices.Equal(a.Params, b.Params) && slices.Equal(a.Inputs, b.Inputs) && slices.Equal(a.Outputs, b.Outputs) && a.State == b.State && a.Most == b.Most
}

// unknown are names of no block.
func unknown() []string {
	return []string{"", " ", "Add", "add ", " add", "ADD", "ad", "addd", "out", "U", "T", "none", "block", "if", "\xff", "add\x00", strings.Repeat("add", 100000)}
}

func TestP18_1Names(t *testing.T) {
	var want []string
	for _, d := range blocks() {
		want = append(want, d.Name)
	}
	names := block.Names()
	if len(names) != 33 || !slices.IsSorted(names) || !slices.Equal(names, want) {
		t.Errorf("Names: %v", names)
	}
	names[0] = "changed"
	if !slices.Equal(block.Names(), want) {
		t.Error("Names returns what it keeps")
	}
}

func TestP18_1Find(t *testing.T) {
	for _, want := range blocks() {
		d, e := block.Find(want.Name)
		if !areSame(d, want) || e != api.OK {
			t.Errorf("Find of %s: %v, %d, not %v", want.Name, d, e, want)
			continue
		}
		for i := range d.Params {
			d.Params[i] = api.Bound{}
		}
		d.Inputs[0], d.Outputs[0] = api.Port{}, api.Port{}
		if again, _ := block.Find(want.Name); !areSame(again, want) {
			t.Errorf("Find of %s returns what it keeps", want.Name)
		}
	}
	for _, name := range unknown() {
		if d, e := block.Find(name); !areSame(d, api.Descriptor{}) || e != api.ErrUnknown {
			t.Errorf("Find of %.30q: %v, %d", name, d, e)
		}
	}
}

// param makes a param.
func param(name string, value int64) api.Param { return api.Param{Name: name, Value: value} }

func TestP18_2Params(t *testing.T) {
	const most = api.MaxAnalog
	for i, c := range []struct {
		name string
		list []api.Param
		want []int64
		e    api.Errno
	}{
		{"limit", []api.Param{param("high", 5)}, []int64{-most, 5}, api.OK}, {"limit", []api.Param{param("high", 5), param("low", 6)}, nil, api.ErrConflict}, {"limit", []api.Param{param("high", 5), param("low", 5)}, []int64{5, 5}, api.OK}, {"limit", []api.Param{param("low", most)}, []int64{most, most}, api.OK}, {"limit", []api.Param{param("low", -5)}, []int64{-5, most}, api.OK},
		{"pid", []api.Param{param("reverse", 1), param("ti", 86400), param("kp", 0)}, []int64{0, 86400, 0, 100000, 1}, api.OK}, {"pid", []api.Param{param("low", 100000)}, []int64{1000, 0, 100000, 100000, 0}, api.OK}, {"pid", []api.Param{param("low", 100001)}, nil, api.ErrConflict}, {"pid", []api.Param{param("high", -1)}, nil, api.ErrConflict}, {"pid", []api.Param{param("high", -1), param("low", -1)}, []int64{1000, 0, -1, -1, 0}, api.OK},
		{"line", []api.Param{param("x1", 99999)}, []int64{99999, 0, 100000, 100000}, api.OK}, {"line", []api.Param{param("x1", 100000)}, nil, api.ErrConflict}, {"line", []api.Param{param("x2", 0)}, nil, api.ErrConflict}, {"line", []api.Param{param("x2", 1), param("y2", -5), param("y1", 7)}, []int64{0, 7, 1, -5}, api.OK}, {"line", []api.Param{param("x1", 5), param("x2", 3)}, nil, api.ErrConflict},
		{"hyst", []api.Param{param("on", 1)}, []int64{1, 0}, api.OK}, {"hyst", []api.Param{param("on", 0)}, nil, api.ErrConflict}, {"hyst", []api.Param{param("off", 1000)}, nil, api.ErrConflict}, {"hyst", []api.Param{param("off", 999)}, []int64{1000, 999}, api.OK}, {"hyst", []api.Param{param("off", 21000), param("on", 20000)}, nil, api.ErrConflict},
		// The other blocks have no conditions.
		{"stage", []api.Param{param("up", 5), param("down", 7)}, []int64{1, 5, 7, 0, 0}, api.OK}, {"minrun", []api.Param{param("on", 5), param("off", 7)}, []int64{5, 7}, api.OK}, {"rate", []api.Param{param("up", 5), param("down", 7)}, []int64{5, 7}, api.OK}, {"rate", []api.Param{param("up", 0), param("down", 0)}, []int64{0, 0}, api.OK},
		{"add", []api.Param{param("low", 5)}, nil, api.ErrUnknown}, {"limit", []api.Param{param("", 5)}, nil, api.ErrUnknown}, {"limit", []api.Param{param("Low", 5)}, nil, api.ErrUnknown}, {"limit", []api.Param{param("a", 5)}, nil, api.ErrUnknown}, {"limit", []api.Param{param("on", 5)}, nil, api.ErrUnknown}, {"limit", []api.Param{param("out", 5)}, nil, api.ErrUnknown},
		{"limit", []api.Param{param("low", 5), param("low", 5)}, nil, api.ErrDuplicate}, {"limit", []api.Param{param("low", 5), param("high", 9), param("low", 6)}, nil, api.ErrDuplicate},
		// Each error is looked for in the whole list before the next one.
		{"limit", []api.Param{param("low", most+1), param("low", 6), param("x", 0)}, nil, api.ErrUnknown}, {"limit", []api.Param{param("x", 0), param("x", 0)}, nil, api.ErrUnknown}, {"none", []api.Param{param("low", 6), param("low", 6)}, nil, api.ErrUnknown},
		{"limit", []api.Param{param("low", most+1), param("low", most+1)}, nil, api.ErrDuplicate}, {"limit", []api.Param{param("high", math.MinInt64), param("low", 5), param("low", 6)}, nil, api.ErrDuplicate},
		{"limit", []api.Param{param("low", 6), param("high", -most-1)}, nil, api.ErrRange}, {"hyst", []api.Param{param("off", most+1)}, nil, api.ErrRange}, {"line", []api.Param{param("x1", 100000), param("y1", most+1)}, nil, api.ErrRange}, {"pid", []api.Param{param("high", -5), param("reverse", 2)}, nil, api.ErrRange},
	} {
		given := slices.Clone(c.list)
		if got, e := block.Params(c.name, given); !slices.Equal(got, c.want) || e != c.e {
			t.Errorf("Params %d of %s: %v, %d, not %v, %d", i, c.name, got, e, c.want, c.e)
		}
		if !slices.Equal(given, c.list) {
			t.Errorf("Params %d of %s has changed the list", i, c.name)
		}
	}
	for _, name := range unknown() {
		if got, e := block.Params(name, nil); len(got) != 0 || e != api.ErrUnknown {
			t.Errorf("Params of %.30q: %v, %d", name, got, e)
		}
	}
}

// holds reports whether the condition of a block holds for params.
func holds(name string, params []int64) bool {
	switch name {
	case "limit":
		return params[0] <= params[1]
	case "pid":
		return params[2] <= params[3]
	case "line":
		return params[0] < params[2]
	case "hyst":
		return params[1] < params[0]
	}
	return true
}

func TestP18_2Ranges(t *testing.T) {
	for _, d := range blocks() {
		var usual []int64
		for _, b := range d.Params {
			usual = append(usual, b.Default)
		}
		if got, e := block.Params(d.Name, nil); !slices.Equal(got, usual) || e != api.OK {
			t.Errorf("Params of %s: %v, %d, not %v", d.Name, got, e, usual)
		}
		for i, b := range d.Params {
			for _, n := range []int64{math.MinInt64, b.Lo - 1, b.Lo, b.Lo + 1, b.Default, b.Hi - 1, b.Hi, b.Hi + 1, math.MaxInt64} {
				want, e := slices.Clone(usual), api.OK
				want[i] = n
				switch {
				case n < b.Lo || n > b.Hi:
					want, e = nil, api.ErrRange
				case !holds(d.Name, want):
					want, e = nil, api.ErrConflict
				}
				if got, f := block.Params(d.Name, []api.Param{param(b.Name, n)}); !slices.Equal(got, want) || f != e {
					t.Errorf("Params of %s with %s %d: %v, %d, not %v, %d", d.Name, b.Name, n, got, f, want, e)
				}
			}
		}
	}
}

func TestP18_2Inputs(t *testing.T) {
	for _, d := range blocks() {
		for n := -3; n <= 12; n++ {
			want, e := slices.Clone(d.Inputs), api.OK
			for len(want) < n {
				want = append(want, d.Inputs[len(d.Inputs)-1])
			}
			if n < len(d.Inputs) || n > len(d.Inputs)+d.Most-1 {
				want, e = nil, api.ErrInvalid
			}
			if got, f := block.Inputs(d.Name, n); !slices.Equal(got, want) || f != e {
				t.Errorf("Inputs of %s, %d connected: %v, %d, not %v, %d", d.Name, n, got, f, want, e)
			}
		}
		for _, n := range []int{math.MinInt, math.MaxInt} {
			if got, e := block.Inputs(d.Name, n); len(got) != 0 || e != api.ErrInvalid {
				t.Errorf("Inputs of %s, %d connected: %v, %d", d.Name, n, got, e)
			}
		}
	}
	for _, name := range unknown() {
		for _, n := range []int{0, 1, 2} {
			if got, e := block.Inputs(name, n); len(got) != 0 || e != api.ErrUnknown {
				t.Errorf("Inputs of %.30q: %v, %d", name, got, e)
			}
		}
	}
}
