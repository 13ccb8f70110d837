package interlock

import (
	"slices"

	"plenum/api"
	"plenum/lines"
)

// Load returns the group that a line describes, or the first fault.
func Load(l api.Line) (api.Group, api.Fault) {
	c := lines.NewCursor(l, 0)
	g := api.Group{}
	c.OneOf("group")
	g.Name = c.Name()
	c.OneOf("dead")
	g.Dead = c.Whole(MaxDead)
	c.OneOf("of")
	readMember(&g, c)
	for c.More() {
		readMember(&g, c)
	}
	if len(g.Points) < minMembers {
		c.Refuse(api.ErrInvalid)
	}
	c.Alone()
	if fault := c.Fault(); fault.Code != api.OK {
		return api.Group{}, fault
	}
	return g, api.Fault{}
}

// readMember reads POINT.
func readMember(g *api.Group, c *lines.Cursor) {
	name := c.Name()
	switch {
	case len(g.Points) == MaxMembers:
		c.Refuse(api.ErrTooMany)
	case slices.Contains(g.Points, name):
		c.Refuse(api.ErrDuplicate)
	}
	g.Points = append(g.Points, name)
}

// Line returns the canonical line of a group.
func Line(g api.Group) (api.Line, api.Errno) {
	if !hasLine(g) {
		return api.Line{}, api.ErrInvalid
	}
	tokens := append(lines.Words("group", g.Name, "dead"), lines.Whole(g.Dead), lines.Word("of"))
	return api.Line{Tokens: append(tokens, lines.Words(g.Points...)...)}, api.OK
}

// hasLine reports whether a group is what some line describes.
func hasLine(g api.Group) bool {
	count := len(g.Points)
	return minMembers <= count && count <= MaxMembers && isDead(g.Dead) && hasNames(g) && areDistinct(g.Points)
}
