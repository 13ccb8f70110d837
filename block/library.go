package block

import (
	"strings"

	"plenum/api"
)

// row is a block of the library. Its inputs are written as in the document: name: type, and commas between them.
type row struct {
	name, inputs, output string
	most, state          int
}

// library returns all blocks, sorted by name.
func library() [33]row {
	return [...]row{
		{"above", "a: U, b: U", "binary", 1, 0},
		{"abs", "a: U", "U", 1, 0},
		{"add", "a: U, b: U", "U", 1, 0},
		{"and", "a: binary, b: binary", "binary", 7, 0},
		{"below", "a: U, b: U", "binary", 1, 0},
		{"choose", "m: multi, a: T", "T", 7, 0},
		{"count", "a: binary, reset: binary", "analog", 1, 2},
		{"dewpoint", "t: analog degC, rh: analog pct", "analog degC", 1, 0},
		{"div", "a: U, b: V", "U/V", 1, 0},
		{"edge", "a: binary", "binary", 1, 1},
		{"enthalpy", "t: analog degC, rh: analog pct", "analog kJ/kg", 1, 0},
		{"hyst", "a: U", "binary", 1, 1},
		{"latch", "set: binary, reset: binary", "binary", 1, 1},
		{"limit", "a: U", "U", 1, 0},
		{"line", "a: U", "analog", 1, 0},
		{"max", "a: U, b: U", "U", 1, 0},
		{"mean", "a: U, b: U", "U", 7, 0},
		{"min", "a: U, b: U", "U", 1, 0},
		{"minrun", "a: binary", "binary", 1, 2},
		{"mul", "a: U, b: V", "U*V", 1, 0},
		{"neg", "a: U", "U", 1, 0},
		{"not", "a: binary", "binary", 1, 0},
		{"offdelay", "a: binary", "binary", 1, 1},
		{"ondelay", "a: binary", "binary", 1, 1},
		{"or", "a: binary, b: binary", "binary", 7, 0},
		{"pick", "s: binary, a: T, b: T", "T", 1, 0},
		{"pid", "set: U, now: U, enable: binary", "analog pct", 1, 3},
		{"pulse", "a: binary", "binary", 1, 2},
		{"rate", "a: U", "U", 1, 2},
		{"stage", "a: U", "multi", 1, 2},
		{"steps", "go: binary, next: binary", "multi", 1, 2},
		{"sub", "a: U, b: U", "U", 1, 0},
		{"xor", "a: binary, b: binary", "binary", 1, 0},
	}
}

// outputName is the name of the only output of every block.
const outputName = "out"

// descriptor returns the descriptor of a row.
func (r row) descriptor() api.Descriptor {
	d := api.Descriptor{Name: r.name, Params: bounds(r.name), State: r.state, Most: r.most}
	for _, input := range strings.Split(r.inputs, ", ") {
		name, text, _ := strings.Cut(input, ": ")
		d.Inputs = append(d.Inputs, api.Port{Name: name, Type: text})
	}
	d.Outputs = []api.Port{{Name: outputName, Type: r.output}}
	return d
}

// bounds returns the parameters of a block.
func bounds(block string) []api.Bound {
	bound := func(name string, lo, hi, usual int64) api.Bound {
		return api.Bound{Name: name, Lo: lo, Hi: hi, Default: usual}
	}
	number := func(name string, usual int64) api.Bound {
		return bound(name, -api.MaxAnalog, api.MaxAnalog, usual)
	}
	seconds := func(name string) api.Bound { return bound(name, 0, api.DaySeconds, 0) }
	switch block {
	case "hyst":
		return []api.Bound{number("on", 1000), number("off", 0)}
	case "limit":
		return []api.Bound{number("low", -api.MaxAnalog), number("high", api.MaxAnalog)}
	case "line":
		return []api.Bound{number("x1", 0), number("y1", 0), number("x2", 100000), number("y2", 100000)}
	case "minrun":
		return []api.Bound{seconds("on"), seconds("off")}
	case "offdelay", "ondelay", "pulse":
		return []api.Bound{seconds("time")}
	case "pid":
		return []api.Bound{bound("kp", 0, 1000000000, 1000), seconds("ti"), number("low", 0), number("high", 100000), bound("reverse", 0, 1, 0)}
	case "rate":
		return []api.Bound{bound("up", 0, api.MaxAnalog, 1000), bound("down", 0, api.MaxAnalog, 1000)}
	case "stage":
		return []api.Bound{bound("stages", 1, 15, 1), number("up", 0), number("down", 0), seconds("updelay"), seconds("downdelay")}
	case "steps":
		return []api.Bound{bound("count", 1, 15, 1), seconds("least")}
	}
	return nil
}

// areAllowed reports whether all params of a block are there and in their ranges.
func areAllowed(d api.Descriptor, params []int64) bool {
	if len(params) != len(d.Params) {
		return false
	}
	for i, b := range d.Params {
		if params[i] < b.Lo || params[i] > b.Hi {
			return false
		}
	}
	return true
}

// agree reports whether the condition of a block holds for its params.
func agree(block string, params []int64) bool {
	switch block {
	case "hyst":
		on, off := params[0], params[1]
		return off < on
	case "limit":
		low, high := params[0], params[1]
		return low <= high
	case "line":
		x1, x2 := params[0], params[2]
		return x1 < x2
	case "pid":
		low, high := params[2], params[3]
		return low <= high
	}
	return true
}
