package pid

import "plenum/api"

// areRates reports whether a value can rise and fall by so much per second.
func areRates(up, down int64) bool {
	return isFrom(up, 0, api.MaxAnalog) && isFrom(down, 0, api.MaxAnalog)
}

// canFollow reports whether the arguments of Limit and Settle are in their ranges.
func canFollow(last, target, up, down int64, dt int) bool {
	return isNumber(last) && isNumber(target) && areRates(up, down) && isTime(dt)
}

// Limit returns a value that follows a target by at most up or down per second.
func Limit(last, target, up, down int64, dt int) (int64, api.Errno) {
	if !canFollow(last, target, up, down, dt) {
		return 0, api.ErrInvalid
	}
	return limited(target, last-down*int64(dt), last+up*int64(dt)), api.OK
}

// Settle returns after how many scans of dt seconds Limit has reached a target.
func Settle(last, target, up, down int64, dt int) (int, api.Errno) {
	if !canFollow(last, target, up, down, dt) {
		return 0, api.ErrInvalid
	}
	way, perScan := target-last, up*int64(dt)
	if way < 0 {
		way, perScan = -way, down*int64(dt)
	}
	switch {
	case way == 0:
		return 0, api.OK
	case perScan == 0:
		return 0, api.ErrNone
	}
	return int((way + perScan - 1) / perScan), api.OK
}
