package interlock

import (
	"slices"

	"plenum/api"
	"plenum/lexer"
)

// Limits of groups.
const (
	MaxDead    = 3600 // seconds
	MaxMembers = 16   // points of a group
)

// minMembers is how many points a group has at least.
const minMembers = 2

// isDead reports whether a dead time is allowed.
func isDead(seconds int) bool { return 0 <= seconds && seconds <= MaxDead }

// hasNames reports whether a group and all of its points have names.
func hasNames(g api.Group) bool {
	isNoName := func(s string) bool { return !lexer.Name(s) }
	return lexer.Name(g.Name) && !slices.ContainsFunc(g.Points, isNoName)
}

// Check returns OK for valid groups of binary outputs, or the first error. Every point is in at most one group.
func Check(points []api.Point, groups []api.Group) api.Errno {
	some := func(holds func(g api.Group) bool) bool { return slices.ContainsFunc(groups, holds) }
	switch {
	case len(groups) > api.MaxGroups || some(func(g api.Group) bool { return len(g.Points) > MaxMembers }):
		return api.ErrTooMany
	case some(func(g api.Group) bool { return !hasNames(g) }):
		return api.ErrName
	case some(func(g api.Group) bool { return !isDead(g.Dead) }):
		return api.ErrRange
	case some(func(g api.Group) bool { return len(g.Points) < minMembers }):
		return api.ErrInvalid
	case !areIncreasing(groups) || !areDistinct(members(groups)):
		return api.ErrDuplicate
	}
	return checkMembers(points, members(groups))
}

// areIncreasing reports whether groups are strictly increasing by name.
func areIncreasing(groups []api.Group) bool {
	for i := 1; i < len(groups); i++ {
		if groups[i-1].Name >= groups[i].Name {
			return false
		}
	}
	return true
}

// members returns the names of the points of all groups.
func members(groups []api.Group) []string {
	var names []string
	for _, g := range groups {
		names = append(names, g.Points...)
	}
	return names
}

// areDistinct reports whether no two names of a list are the same.
func areDistinct(names []string) bool {
	seen := map[string]bool{}
	for _, name := range names {
		seen[name] = true
	}
	return len(seen) == len(names)
}

// checkMembers returns OK if all names are those of binary outputs, or the first error.
func checkMembers(points []api.Point, names []string) api.Errno {
	fits := map[string]bool{}
	for _, p := range points {
		if _, again := fits[p.Name]; !again {
			fits[p.Name] = p.Role == api.Output && p.Kind == api.Binary
		}
	}
	isUnknown := func(name string) bool {
		_, known := fits[name]
		return !known
	}
	switch {
	case slices.ContainsFunc(names, isUnknown):
		return api.ErrUnknown
	case slices.ContainsFunc(names, func(name string) bool { return !fits[name] }):
		return api.ErrType
	}
	return api.OK
}

// Find returns the index of the group of a point and its index in it.
func Find(groups []api.Group, point string) (int, int, api.Errno) {
	for i, g := range groups {
		if k := slices.Index(g.Points, point); k >= 0 {
			return i, k, api.OK
		}
	}
	return 0, 0, api.ErrNone
}
