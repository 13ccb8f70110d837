package sequencer

import "plenum/api"

// evaluate evaluates the block with the same inputs again and again, until isEnough says so of the number of evaluations, which it returns.
func (q *sequence) evaluate(in []int64, dt int64, isEnough func(evaluations int) bool) int {
	evaluations := 0
evaluating:
	for {
		switch {
		case isEnough(evaluations):
			break evaluating
		case q.descriptor.Name == stageName:
			q.stage(in[0], dt)
		default:
			q.steps(in[0] == on, in[1] == on, dt)
		}
		evaluations++
	}
	return evaluations
}

// lead evaluates the block until it has come to a place, and returns how often. The inputs have to lead there: a stage or a step then takes at most the seconds of a day, so the loop ends.
func (q *sequence) lead(place int64, in []int64, dt int) int {
	return q.evaluate(in, int64(dt), func(int) bool { return q.place == place })
}

// compare reports whether a demand on the block stage is high, and whether it is low.
func (q *sequence) compare(demand int64) (isHigh, isLow bool) {
	up, down := q.params[1], q.params[2]
	return demand > up, demand < down
}

// stage is an evaluation of the block stage. Its time needs no limit: as soon as it is as long as a delay, which is at most a day, it begins again.
func (q *sequence) stage(demand, dt int64) {
	upDelay, downDelay := q.params[3], q.params[4]
	isHigh, isLow := q.compare(demand)
	switch {
	case isHigh && q.place < q.last():
		q.time = max(q.time, 0) + dt
		if q.time >= upDelay {
			q.move(q.place + 1)
		}
	case isLow && q.place > 0:
		q.time = min(q.time, 0) - dt
		if -q.time >= downDelay {
			q.move(q.place - 1)
		}
	default:
		q.time = 0
	}
}

// steps is an evaluation of the block steps.
func (q *sequence) steps(goes, hasNext bool, dt int64) {
	least := q.params[1]
	switch {
	case !goes:
		q.move(0)
	case q.place == 0:
		q.move(1)
	default:
		q.time = min(q.time+dt, api.MaxInstant)
		if q.place < q.last() && hasNext && q.time >= least {
			q.move(q.place + 1)
		}
	}
}

// move makes the block come to a place, where its time begins.
func (q *sequence) move(place int64) { q.place, q.time = place, 0 }
