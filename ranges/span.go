package ranges

import "plenum/api"

// only returns the range of one number.
func only(n int64) api.Span { return api.Span{Lo: n, Hi: n} }

// bits returns the range of binary numbers.
func bits() api.Span { return api.Span{Lo: 0, Hi: 1} }

// widest returns the greatest range of a port with a type.
func widest(text string) api.Span {
	switch text {
	case "binary":
		return bits()
	case "multi":
		return api.Span{Lo: 1, Hi: api.MaxStates}
	}
	return api.Span{Lo: -api.MaxAnalog, Hi: api.MaxAnalog}
}

// isReversed reports whether the ends of a range are in the wrong order.
func isReversed(s api.Span) bool { return s.Lo > s.Hi }

// contains reports whether a range contains another one.
func contains(s, inner api.Span) bool { return s.Lo <= inner.Lo && inner.Hi <= s.Hi }

// limited returns a range with both ends replaced by the nearest numbers of another one.
func limited(s, limits api.Span) api.Span {
	nearest := func(n int64) int64 { return min(max(n, limits.Lo), limits.Hi) }
	return api.Span{Lo: nearest(s.Lo), Hi: nearest(s.Hi)}
}

// hull returns the least range that contains a first one and all others.
func hull(first api.Span, others ...api.Span) api.Span {
	for _, s := range others {
		first = api.Span{Lo: min(first.Lo, s.Lo), Hi: max(first.Hi, s.Hi)}
	}
	return first
}
