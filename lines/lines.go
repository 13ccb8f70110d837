// Package lines is no layer: it reads the tokens of a line, with the fault that comes first, and makes tokens. Layers whose things have lines use it.
package lines

import (
	"slices"

	"plenum/api"
	"plenum/lexer"
)

// thousand is what a whole number has in thousandths.
const thousand = 1000

// Cursor reads the tokens of a line from left to right. It notes the first fault, and reads nothing behind it.
type Cursor struct {
	line  api.Line
	next  int
	fault api.Fault
}

// NewCursor returns a cursor that has passed some tokens of a line.
func NewCursor(l api.Line, passed int) *Cursor { return &Cursor{line: l, next: passed} }

// FaultAt returns a fault at the token of a line with an index, or at the last token if there is none with this index.
func FaultAt(l api.Line, i int, e api.Errno) api.Fault {
	col := 1
	if last := len(l.Tokens) - 1; last >= 0 {
		col = l.Tokens[min(i, last)].At
	}
	return api.Fault{Code: e, Line: l.At, Col: col}
}

// FaultAtEnd returns a fault at the last token of a line.
func FaultAtEnd(l api.Line, e api.Errno) api.Fault { return FaultAt(l, len(l.Tokens), e) }

// Fault returns the first fault, or the zero Fault.
func (c *Cursor) Fault() api.Fault { return c.fault }

// fail notes a fault at the token with an index.
func (c *Cursor) fail(i int, e api.Errno) {
	if c.fault.Code == api.OK {
		c.fault = FaultAt(c.line, i, e)
	}
}

// Refuse notes a fault at the token that was read last.
func (c *Cursor) Refuse(e api.Errno) { c.fail(max(c.next-1, 0), e) }

// More reports whether there are tokens to be read.
func (c *Cursor) More() bool { return c.fault.Code == api.OK && c.next < len(c.line.Tokens) }

// Take returns the next token, which must be as the closure says.
func (c *Cursor) Take(fits func(t api.Token) bool) api.Token {
	if !c.More() || !fits(c.line.Tokens[c.next]) {
		c.fail(c.next, api.ErrSyntax)
		return api.Token{}
	}
	c.next++
	return c.line.Tokens[c.next-1]
}

// Word returns the next token, a word.
func (c *Cursor) Word() string {
	return c.Take(func(t api.Token) bool { return t.Kind == api.TokWord }).Text
}

// Name returns the next token, a word that is a name.
func (c *Cursor) Name() string {
	name := c.Word()
	if !lexer.Name(name) {
		c.Refuse(api.ErrName)
	}
	return name
}

// OneOf returns the number, from 1 on, of the next token among some words.
func (c *Cursor) OneOf(words ...string) int {
	t := c.Take(func(t api.Token) bool { return t.Kind == api.TokWord && slices.Contains(words, t.Text) })
	return slices.Index(words, t.Text) + 1
}

// Number returns the next token, a number of thousandths.
func (c *Cursor) Number() int64 {
	return c.Take(func(t api.Token) bool { return t.Kind == api.TokNumber }).N
}

// Integer returns the next token, a whole number of any size.
func (c *Cursor) Integer() int64 {
	n := c.Number()
	if n%thousand != 0 {
		c.Refuse(api.ErrRange)
	}
	return n / thousand
}

// between returns the next token, a whole number between two others.
func (c *Cursor) between(least, most int) int {
	n := c.Integer()
	if n < int64(least) || n > int64(most) {
		c.Refuse(api.ErrRange)
	}
	return int(n)
}

// Whole returns the next token, a whole number from 0 to the greatest one that is allowed.
func (c *Cursor) Whole(most int) int { return c.between(0, most) }

// Count returns the next token, a whole number from 1 to the greatest one that is allowed.
func (c *Cursor) Count(most int) int { return c.between(1, most) }

// End notes a fault if a token is left.
func (c *Cursor) End() {
	if c.More() {
		c.fail(c.next, api.ErrSyntax)
	}
}

// Alone notes a fault at the last token if the line is a heading or has kids.
func (c *Cursor) Alone() {
	if c.line.Heading || len(c.line.Kids) > 0 {
		c.fail(len(c.line.Tokens), api.ErrSyntax)
	}
}
