package units

// named is a unit with its name.
type named struct {
	name string
	unit Unit
}

// table returns the units that have names, sorted by name.
func table() [28]named {
	var (
		plain     = [4]int{0, 0, 0, 0}
		length    = [4]int{1, 0, 0, 0}
		volume    = [4]int{3, 0, 0, 0}
		mass      = [4]int{0, 1, 0, 0}
		time      = [4]int{0, 0, 1, 0}
		warmth    = [4]int{0, 0, 0, 1}
		frequency = [4]int{0, 0, -1, 0}
		force     = [4]int{1, 1, -2, 0}
		pressure  = [4]int{-1, 1, -2, 0}
		energy    = [4]int{2, 1, -2, 0}
		power     = [4]int{2, 1, -3, 0}
	)
	return [...]named{
		{"Hz", Unit{frequency, 1, 1, 0}},
		{"J", Unit{energy, 1000, 1, 0}},
		{"K", Unit{warmth, 1, 1, 0}},
		{"MJ", Unit{energy, 1000000000, 1, 0}},
		{"MW", Unit{power, 1000000000, 1, 0}},
		{"N", Unit{force, 1000, 1, 0}},
		{"Pa", Unit{pressure, 1000, 1, 0}},
		{"W", Unit{power, 1000, 1, 0}},
		{"bar", Unit{pressure, 100000000, 1, 0}},
		{"d", Unit{time, 86400, 1, 0}},
		{"degC", Unit{warmth, 1, 1, 273150}},
		{"g", Unit{mass, 1, 1, 0}},
		{"h", Unit{time, 3600, 1, 0}},
		{"kJ", Unit{energy, 1000000, 1, 0}},
		{"kPa", Unit{pressure, 1000000, 1, 0}},
		{"kW", Unit{power, 1000000, 1, 0}},
		{"kWh", Unit{energy, 3600000000, 1, 0}},
		{"kg", Unit{mass, 1000, 1, 0}},
		{"km", Unit{length, 1000, 1, 0}},
		{"l", Unit{volume, 1, 1000, 0}},
		{"m", Unit{length, 1, 1, 0}},
		{"min", Unit{time, 60, 1, 0}},
		{"mm", Unit{length, 1, 1000, 0}},
		{"one", Unit{plain, 1, 1, 0}},
		{"pct", Unit{plain, 1, 100, 0}},
		{"ppm", Unit{plain, 1, 1000000, 0}},
		{"rpm", Unit{frequency, 1, 60, 0}},
		{"s", Unit{time, 1, 1, 0}},
	}
}

// Names returns the names of the units that texts may have, sorted.
func Names() []string {
	var list []string
	for _, row := range table() {
		list = append(list, row.name)
	}
	return list
}

// unitOf returns the unit that has a name, and whether there is one.
func unitOf(name string) (Unit, bool) {
	for _, row := range table() {
		if row.name == name {
			return row.unit, true
		}
	}
	return Unit{}, false
}

// nameOf returns the least name of a unit, or nothing.
func nameOf(u Unit) string {
	for _, row := range table() {
		if row.unit == u {
			return row.name
		}
	}
	return ""
}
