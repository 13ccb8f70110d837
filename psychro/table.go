package psychro

import "plenum/fixed"

// The temperatures of the table: one at the end of each interval, and the coldest one.
const (
	coldest   = -20000
	warmest   = 60000
	interval  = 5000
	intervals = (warmest - coldest) / interval
)

// saturated has the humidity ratios of saturated air at the temperatures of the table.
var saturated = [intervals + 1]int64{637, 1020, 1603, 2487, 3789, 5424, 7661, 10694, 14757, 20170, 27329, 36756, 49141, 65411, 86858, 115321, 153540}

// temperatureAt returns a temperature of the table.
func temperatureAt(i int) int64 { return coldest + interval*int64(i) }

// Saturation returns the humidity ratio of saturated air.
func Saturation(temperature int64) int64 {
	t := limited(temperature, coldest, warmest)
	// The warmest temperature ends the last interval, and begins none.
	i := min(int((t-coldest)/interval), intervals-1)
	return fixed.Line(t, temperatureAt(i), saturated[i], temperatureAt(i+1), saturated[i+1])
}

// Dew returns the temperature at which air of a humidity ratio is saturated.
func Dew(ratio int64) int64 {
	w := limitedRatio(ratio)
	i := 0
	for i < intervals-1 && saturated[i+1] <= w {
		i++
	}
	// A ratio outside of the table gives the nearer end, because a line stays at its ends.
	return fixed.Line(w, saturated[i], temperatureAt(i), saturated[i+1], temperatureAt(i+1))
}
