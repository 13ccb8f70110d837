package safety

import (
	"strconv"

	"plenum/api"
	"plenum/value"
)

// Explain returns the text of what a point does.
func Explain(p api.Point, r Result) string {
	does, e := value.Text(p, r.Value)
	if e != api.OK {
		return ""
	}
	if r.Reason == ByRequest {
		return does + levelText(r.Request.Level)
	}
	words, known := reasonWords()[r.Reason]
	wanted, e := value.Text(p, r.Request.Value)
	if !known || e != api.OK {
		return ""
	}
	return does + ", " + words + ", " + wanted + levelText(r.Request.Level)
}

// reasonWords returns the words for the reasons why a point does not have the requested value.
func reasonWords() map[int]string {
	return map[int]string{
		ByMinimum:   "minimum time",
		ByInterlock: "interlock",
		ByWaiting:   "dead time",
	}
}

// levelText returns the text that says at which level something is requested.
func levelText(level int) string {
	if level == defaultLevel {
		return " by default"
	}
	return " by level " + strconv.Itoa(level)
}
