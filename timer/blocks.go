package timer

// on is the number of a binary value that is on.
const on = 1

// wasOn is the state of offdelay after a step in which its input is on.
const wasOn = -1

// thousand makes thousandths of a number that is counted.
const thousand = 1000

// bit returns the number of a binary value.
func bit(isOn bool) int64 {
	if isOn {
		return on
	}
	return 0
}

// evaluate replaces the state and returns the number of the output, for the numbers of the inputs.
func (r *relay) evaluate(in []int64, dt int64) int64 {
	switch r.descriptor.Name {
	case "count":
		return r.count(in[0], in[1])
	case "edge":
		return r.edge(in[0])
	case "hyst":
		return r.hyst(in[0])
	case "latch":
		return r.latch(in[0], in[1])
	case "minrun":
		return r.minrun(in[0], dt)
	case "offdelay":
		return r.offdelay(in[0], dt)
	case "ondelay":
		return r.ondelay(in[0], dt)
	}
	return r.pulse(in[0], dt)
}

// edge keeps its input in the state.
func (r *relay) edge(a int64) int64 {
	before := r.state[0]
	r.state[0] = a
	return bit(a == on && before == 0)
}

// count keeps its input, as edge does, and the count.
func (r *relay) count(a, reset int64) int64 {
	rises := r.edge(a) == on
	switch {
	case reset == on:
		r.state[1] = 0
	case rises:
		r.state[1] = min(r.state[1]+1, MaxCount)
	}
	return thousand * r.state[1]
}

// hyst keeps its output in the state.
func (r *relay) hyst(a int64) int64 {
	above, below := r.params[0], r.params[1]
	switch {
	case a > above:
		r.state[0] = on
	case a < below:
		r.state[0] = 0
	}
	return r.state[0]
}

// latch keeps its output in the state.
func (r *relay) latch(set, reset int64) int64 {
	switch {
	case reset == on:
		r.state[0] = 0
	case set == on:
		r.state[0] = on
	}
	return r.state[0]
}

// elapsed returns the seconds that have passed since a time began. The state has one more of them, because 0 says that no time runs.
func (r *relay) elapsed(i int, dt int64) int64 { return r.state[i] - 1 + dt }

// lasts keeps in the state that so many seconds of a time have passed, or that no time runs if it is over. It reports whether the time runs.
func (r *relay) lasts(i int, seconds, time int64) bool {
	if seconds >= time {
		r.state[i] = 0
		return false
	}
	r.state[i] = seconds + 1
	return true
}

// ondelay keeps in the state how long its input has been on, at most its whole time.
func (r *relay) ondelay(a, dt int64) int64 {
	time := r.params[0]
	if a != on {
		r.state[0] = 0
		return 0
	}
	seconds := int64(0)
	if r.state[0] != 0 {
		seconds = min(r.elapsed(0, dt), time)
	}
	r.state[0] = seconds + 1
	return bit(seconds == time)
}

// offdelay keeps in the state how long its input has been off, while its output is still on.
func (r *relay) offdelay(a, dt int64) int64 {
	time := r.params[0]
	switch {
	case a == on:
		r.state[0] = wasOn
		return on
	case r.state[0] == wasOn:
		return bit(r.lasts(0, 0, time))
	case r.state[0] != 0:
		return bit(r.lasts(0, r.elapsed(0, dt), time))
	}
	return 0
}

// pulse keeps its input, as edge does, and how long a pulse lasts.
func (r *relay) pulse(a, dt int64) int64 {
	time := r.params[0]
	begins := r.edge(a) == on
	switch {
	case begins:
		return bit(r.lasts(1, 0, time))
	case r.state[1] != 0:
		return bit(r.lasts(1, r.elapsed(1, dt), time))
	}
	return 0
}

// minrun keeps its output, and how long it has been so, while it may not change.
func (r *relay) minrun(a, dt int64) int64 {
	isHeld := r.state[1] != 0 && r.lasts(1, r.elapsed(1, dt), r.least(r.state[0]))
	if a != r.state[0] && !isHeld {
		r.state[0] = a
		r.lasts(1, 0, r.least(a))
	}
	return r.state[0]
}

// least returns the least time of an output of minrun.
func (r *relay) least(output int64) int64 {
	if output == on {
		return r.params[0]
	}
	return r.params[1]
}
