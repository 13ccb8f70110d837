package safety

import (
	"slices"

	"plenum/api"
	"plenum/point"
	"plenum/priority"
)

// The levels of requests.
const (
	switchLevel  = 1
	orderLevel   = 2
	defaultLevel = api.Levels + 1
)

// Orders returns what the modes that are on write to level 2, in the order of the points.
func Orders(t Table, modes []string) ([]api.Setting, api.Errno) {
	if e := checkOn(t, modes); e != api.OK {
		return nil, e
	}
	orders := ordersOf(t, modes)
	var list []api.Setting
	for _, p := range t.Points {
		if v, ordered := orders[p.Name]; ordered {
			list = append(list, api.Setting{Point: p.Name, Value: v})
		}
	}
	return list, api.OK
}

// checkOn returns OK for a valid table and names of its modes, or the first error.
func checkOn(t Table, modes []string) api.Errno {
	if e := Check(t); e != api.OK {
		return e
	}
	for _, name := range modes {
		if !slices.ContainsFunc(t.Modes, func(m api.Mode) bool { return m.Name == name }) {
			return api.ErrUnknown
		}
	}
	return api.OK
}

// ordersOf returns, by points, the values that the modes that are on order.
func ordersOf(t Table, modes []string) map[string]api.Value {
	orders := map[string]api.Value{}
	for _, m := range t.Modes {
		if !slices.Contains(modes, m.Name) {
			continue
		}
		for _, s := range m.Settings {
			if _, earlier := orders[s.Point]; !earlier {
				orders[s.Point] = s.Value
			}
		}
	}
	return orders
}

// Request returns what is requested of each point, for priority arrays, modes that are on and switches.
func Request(t Table, arrays [][]api.Write, modes []string, switches []api.Setting) ([]api.Request, api.Errno) {
	if e := checkOn(t, modes); e != api.OK {
		return nil, e
	}
	if len(arrays) != len(t.Points) {
		return nil, api.ErrInvalid
	}
	if e := checkSwitches(t, switches); e != api.OK {
		return nil, e
	}
	orders, switched := ordersOf(t, modes), valuesOf(switches)
	requests := make([]api.Request, len(t.Points))
	for i, p := range t.Points {
		if point.Commandable(p) {
			requests[i] = requestOf(p, arrays[i], orders, switched)
		}
	}
	return requests, api.OK
}

// checkSwitches returns OK for switches that points of a table can have, or the first error.
func checkSwitches(t Table, switches []api.Setting) api.Errno {
	if e := checkTargets(t.Points, switches); e != api.OK {
		return e
	}
	if len(valuesOf(switches)) < len(switches) {
		return api.ErrDuplicate
	}
	return checkValues(t.Points, switches)
}

// valuesOf returns the values of settings by points.
func valuesOf(settings []api.Setting) map[string]api.Value {
	values := map[string]api.Value{}
	for _, s := range settings {
		values[s.Point] = s.Value
	}
	return values
}

// requestOf returns what is requested of a point that is no input, for its writes and, by points, the orders and the switches.
func requestOf(p api.Point, writes []api.Write, orders, switched map[string]api.Value) api.Request {
	if v, ok := switched[p.Name]; ok {
		return api.Request{Level: switchLevel, Value: v}
	}
	level, v := priority.Active(fitting(p, writes), p.Default)
	if order, ok := orders[p.Name]; ok && level >= orderLevel {
		return api.Request{Level: orderLevel, Value: order}
	}
	return api.Request{Level: level, Value: v}
}

// fitting returns the writes that relinquish a level or have a value of a point.
func fitting(p api.Point, writes []api.Write) []api.Write {
	var list []api.Write
	for _, w := range writes {
		if w.Value.Kind == api.Null || point.Fits(p, w.Value) {
			list = append(list, w)
		}
	}
	return list
}
