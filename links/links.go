// Package links is no layer: it tells which links and constants can stand in a control program (chapter 23). Layers that take any programs use it.
package links

import (
	"plenum/api"
	"plenum/lexer"
)

// IsConstant reports whether a value is a constant.
func IsConstant(v api.Value) bool {
	switch v.Kind {
	case api.Analog:
		return -api.MaxAnalog <= v.N && v.N <= api.MaxAnalog
	case api.Binary:
		return v.N == 0 || v.N == 1
	case api.Multi:
		return 1 <= v.N && v.N <= api.MaxStates
	}
	return false
}

// isGiven reports whether a value is a constant if there must be one, and nothing if there must not.
func isGiven(v api.Value, must bool) bool {
	if must {
		return IsConstant(v)
	}
	return v == api.Value{}
}

// FromConstant reports whether a formed link comes from a constant.
func FromConstant(l api.Link) bool { return l.Node == "" && l.Point == "" }

// IsFormed reports whether a link is formed.
func IsFormed(l api.Link) bool {
	fromNode := lexer.Name(l.Node) && l.Point == ""
	fromPoint := lexer.Name(l.Point) && l.Node == ""
	if !fromNode && !fromPoint && !FromConstant(l) {
		return false
	}
	return isGiven(l.Const, FromConstant(l)) && l.Port == 0 && isGiven(l.Initial, l.Delayed)
}
