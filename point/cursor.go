package point

import (
	"slices"

	"plenum/api"
)

// thousand is what a whole number has in thousandths.
const thousand = 1000

// cursor reads the tokens of a line from left to right. It notes the first fault, and reads nothing behind it.
type cursor struct {
	line  api.Line
	next  int
	fault api.Fault
}

// faultAt returns a fault at the token of a line with an index, or at the last token if there is none with this index.
func faultAt(l api.Line, i int, e api.Errno) api.Fault {
	col := 1
	if last := len(l.Tokens) - 1; last >= 0 {
		col = l.Tokens[min(i, last)].At
	}
	return api.Fault{Code: e, Line: l.At, Col: col}
}

// faultAtEnd returns a fault at the last token of a line.
func faultAtEnd(l api.Line, e api.Errno) api.Fault { return faultAt(l, len(l.Tokens), e) }

// fail notes a fault at the token with an index.
func (c *cursor) fail(i int, e api.Errno) {
	if c.fault.Code == api.OK {
		c.fault = faultAt(c.line, i, e)
	}
}

// refuse notes a fault at the token that was read last.
func (c *cursor) refuse(e api.Errno) { c.fail(c.next-1, e) }

// more reports whether there are tokens to be read.
func (c *cursor) more() bool { return c.fault.Code == api.OK && c.next < len(c.line.Tokens) }

// take returns the next token, which must be as the closure says.
func (c *cursor) take(fits func(t api.Token) bool) api.Token {
	if !c.more() || !fits(c.line.Tokens[c.next]) {
		c.fail(c.next, api.ErrSyntax)
		return api.Token{}
	}
	c.next++
	return c.line.Tokens[c.next-1]
}

// word returns the next token, a word.
func (c *cursor) word() string {
	return c.take(func(t api.Token) bool { return t.Kind == api.TokWord }).Text
}

// oneOf returns the number, from 1 on, of the next token among some words.
func (c *cursor) oneOf(words ...string) int {
	t := c.take(func(t api.Token) bool { return t.Kind == api.TokWord && slices.Contains(words, t.Text) })
	return slices.Index(words, t.Text) + 1
}

// number returns the next token, a number.
func (c *cursor) number() int64 {
	return c.take(func(t api.Token) bool { return t.Kind == api.TokNumber }).N
}

// seconds returns the next token, a minimum time.
func (c *cursor) seconds() int {
	n := c.number()
	if n < 0 || n > MaxMinimum*thousand || n%thousand != 0 {
		c.refuse(api.ErrRange)
	}
	return int(n / thousand)
}

// end notes a fault if a token is left.
func (c *cursor) end() {
	if c.more() {
		c.fail(c.next, api.ErrSyntax)
	}
}
