package ranges

import (
	"plenum/api"
	"plenum/block"
	"plenum/psychro"
	"plenum/timer"
)

// rule returns the range of a block for the limited ranges of its inputs.
type rule func(b box, in []api.Span) api.Span

// evaluator returns the output of a block without a state, none of whose inputs is multi-state or of any type.
type evaluator func(name string, params []int64, in []api.Value) (api.Value, api.Errno)

// rules returns the rules of all blocks, by their names.
func rules() map[string]rule {
	return map[string]rule{
		"above":    corners,
		"abs":      magnitude,
		"add":      rising(block.Eval),
		"and":      rising(block.Eval),
		"below":    corners,
		"choose":   chosen,
		"count":    startable(api.Span{Lo: 0, Hi: 1000 * timer.MaxCount}),
		"dewpoint": rising(psychro.Eval),
		"div":      quotient,
		"edge":     following(0),
		"enthalpy": rising(psychro.Eval),
		"hyst":     exceeding("on", 0, func(box) int64 { return 1 }),
		"latch":    startable(bits()),
		"limit":    corners,
		"line":     corners,
		"max":      rising(block.Eval),
		"mean":     rising(block.Eval),
		"min":      rising(block.Eval),
		"minrun":   following(0),
		"mul":      corners,
		"neg":      corners,
		"not":      corners,
		"offdelay": following(0, 1),
		"ondelay":  following(0),
		"or":       rising(block.Eval),
		"pick":     picked,
		"pid":      func(b box, _ []api.Span) api.Span { return api.Span{Lo: b.param("low"), Hi: b.param("high")} },
		"pulse":    following(0),
		"rate":     func(_ box, in []api.Span) api.Span { return in[0] },
		"stage":    exceeding("up", 1, func(b box) int64 { return b.param("stages") + 1 }),
		"steps":    sequence,
		"sub":      corners,
		"xor":      corners,
	}
}

// rising returns the rule of a block whose output never falls if an input rises.
func rising(eval evaluator) rule {
	return func(b box, in []api.Span) api.Span {
		var lower, upper []int64
		for _, s := range in {
			lower, upper = append(lower, s.Lo), append(upper, s.Hi)
		}
		return api.Span{Lo: b.at(eval, lower), Hi: b.at(eval, upper)}
	}
}

// corners is the rule of a block whose output only rises or only falls, as far as one input alone changes: so its least and its greatest number belong to ends of the ranges.
func corners(b box, in []api.Span) api.Span {
	var all func(numbers []int64) api.Span
	all = func(numbers []int64) api.Span {
		if len(numbers) == len(in) {
			return only(b.at(block.Eval, numbers))
		}
		next := in[len(numbers)]
		with := func(end int64) api.Span { return all(append(numbers[:len(numbers):len(numbers)], end)) }
		return hull(with(next.Lo), with(next.Hi))
	}
	return all(nil)
}

// magnitude is the rule of abs.
func magnitude(_ box, in []api.Span) api.Span {
	a := in[0]
	negative := api.Span{Lo: -a.Hi, Hi: -a.Lo}
	switch {
	case a.Lo >= 0:
		return a
	case a.Hi <= 0:
		return negative
	}
	return api.Span{Lo: 0, Hi: max(negative.Hi, a.Hi)}
}

// quotient is the rule of div.
func quotient(b box, in []api.Span) api.Span {
	if contains(in[1], only(0)) {
		return b.output()
	}
	return corners(b, in)
}

// picked is the rule of pick.
func picked(_ box, in []api.Span) api.Span {
	switch in[0] {
	case only(1):
		return in[1]
	case only(0):
		return in[2]
	}
	return hull(in[1], in[2])
}

// chosen is the rule of choose.
func chosen(_ box, in []api.Span) api.Span {
	last := int64(len(in) - 1)
	from, to := min(in[0].Lo, last), min(in[0].Hi, last)
	return hull(in[from], in[from+1:to+1]...)
}

// following returns the rule of a binary block whose output is one of some numbers if its only input is always this number.
func following(numbers ...int64) rule {
	return func(_ box, in []api.Span) api.Span {
		for _, n := range numbers {
			if in[0] == only(n) {
				return only(n)
			}
		}
		return bits()
	}
}

// startable returns the rule of a block that gives 0 until its first input is on while its second one is off, and then something of a range.
func startable(s api.Span) rule {
	return func(_ box, in []api.Span) api.Span {
		if in[0] == only(0) || in[1] == only(1) {
			return only(0)
		}
		return s
	}
}

// exceeding returns the rule of a block that gives the least number until its only input is above a parameter.
func exceeding(param string, least int64, greatest func(b box) int64) rule {
	return func(b box, in []api.Span) api.Span {
		if in[0].Hi <= b.param(param) {
			return only(least)
		}
		return api.Span{Lo: least, Hi: greatest(b)}
	}
}

// sequence is the rule of steps.
func sequence(b box, in []api.Span) api.Span {
	switch {
	case in[0] == only(0):
		return only(1)
	case in[1] == only(0):
		return api.Span{Lo: 1, Hi: 2}
	}
	return api.Span{Lo: 1, Hi: b.param("count") + 1}
}
