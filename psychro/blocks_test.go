package psychro_test

import (
	"math"
	"math/rand"
	"slices"
	"strings"
	"testing"

	"plenum/api"
	"plenum/block"
	"plenum/psychro"
)

// analog makes a list of analog values.
func analog(numbers ...int64) []api.Value {
	var list []api.Value
	for _, n := range numbers {
		list = append(list, api.Value{Kind: api.Analog, N: n})
	}
	return list
}

// eval tests an evaluation of a block.
func eval(t *testing.T, name string, temperature, humidity, want int64) {
	t.Helper()
	in := analog(temperature, humidity)
	v, e := psychro.Eval(name, nil, in)
	if v != (api.Value{Kind: api.Analog, N: want}) || e != api.OK || !slices.Equal(in, analog(temperature, humidity)) {
		t.Errorf("Eval of %s of %d and %d: %v, %d, not %d", name, temperature, humidity, v, e, want)
	}
}

func TestP22_2Eval(t *testing.T) {
	eval(t, "enthalpy", 20000, 50000, 38849)
	eval(t, "enthalpy", 20000, 0, 20120)
	eval(t, "enthalpy", math.MinInt64, math.MaxInt64, -99125)
	eval(t, "enthalpy", math.MaxInt64, math.MaxInt64, 642320)
	eval(t, "dewpoint", 20000, 100000, 20000)
	eval(t, "dewpoint", 20000, 999999, 20000)
	eval(t, "dewpoint", 20000, 50000, 9370)
	eval(t, "dewpoint", 20000, 0, -20000)
	eval(t, "dewpoint", math.MinInt64, math.MinInt64, -20000)
	eval(t, "dewpoint", math.MaxInt64, math.MaxInt64, 60000)
	if v, e := psychro.Eval("dewpoint", []int64{}, analog(20000, 100000)); v != analog(20000)[0] || e != api.OK {
		t.Errorf("Eval without params: %v, %d", v, e)
	}
	r := rand.New(rand.NewSource(222))
	for range 20000 {
		x, h := pick(r, -25000, 65000), pick(r, 0, full)
		eval(t, "enthalpy", x, h, enthalpy(x, ratio(x, h)))
		eval(t, "dewpoint", x, h, dew(ratio(x, h)))
	}
}

// refuse tests that an evaluation gives an error.
func refuse(t *testing.T, name string, params []int64, in []api.Value, want api.Errno) {
	t.Helper()
	if v, e := psychro.Eval(name, params, in); v != (api.Value{}) || e != want {
		t.Errorf("Eval of %.20q %v of %v: %v, %d, not %d", name, params, in, v, e, want)
	}
}

func TestP22_2Errors(t *testing.T) {
	unknown := []string{"", "Enthalpy", "enthalpy ", " dewpoint", "dew", "dewpoints", "out", "\xff", "dewpoint\x00", strings.Repeat("enthalpy", 10000)}
	for _, name := range block.Names() {
		if name != "enthalpy" && name != "dewpoint" {
			unknown = append(unknown, name)
		}
	}
	for _, name := range unknown {
		refuse(t, name, nil, analog(20000, 50000), api.ErrUnknown)
		refuse(t, name, []int64{1}, nil, api.ErrUnknown)
		refuse(t, name, nil, make([]api.Value, 2), api.ErrUnknown)
	}
	good := analog(1)[0]
	for _, name := range []string{"enthalpy", "dewpoint"} {
		for _, params := range [][]int64{{0}, {1, 2}, make([]int64, 1000)} {
			refuse(t, name, params, analog(20000, 50000), api.ErrInvalid)
			refuse(t, name, params, make([]api.Value, 2), api.ErrInvalid)
		}
		for _, in := range [][]api.Value{nil, {}, analog(1), analog(1, 2, 3), {{}}, make([]api.Value, 3), make([]api.Value, 1000)} {
			refuse(t, name, nil, in, api.ErrInvalid)
		}
		for _, v := range []api.Value{{}, {N: 1}, {Kind: api.Binary, N: 1}, {Kind: api.Multi, N: 1}, {Kind: 4}, {Kind: -1}, {Kind: math.MaxInt}, {Kind: math.MinInt}} {
			refuse(t, name, nil, []api.Value{v, good}, api.ErrType)
			refuse(t, name, nil, []api.Value{good, v}, api.ErrType)
			refuse(t, name, nil, []api.Value{v, v}, api.ErrType)
		}
	}
}
