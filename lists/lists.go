// Package lists is no layer: it writes and reads encodings (chapter 2) of things that are lists. Layers whose things have such encodings use it.
package lists

import (
	"plenum/api"
	"plenum/codec"
)

// Write appends a list of at most codec.MaxList elements. The closure appends one of them, as one value.
func Write[T any](w *codec.Writer, list []T, one func(x T)) {
	w.List(len(list))
	for _, x := range list {
		one(x)
	}
}

// Reader reads an encoding. What it returns counts only if End returns OK.
type Reader struct {
	source  *codec.Reader
	isWrong bool // whether a list does not have the length that it has to have
}

// NewReader returns a Reader of an encoding.
func NewReader(s string) *Reader { return &Reader{source: codec.NewReader(s)} }

// Fields reads the head of a list that has to have so many values.
func (r *Reader) Fields(count int) {
	if r.source.List() != count {
		r.isWrong = true
	}
}

// Signed reads a signed number.
func (r *Reader) Signed() int64 { return r.source.Signed() }

// Int reads a signed number as an int.
func (r *Reader) Int() int { return int(r.source.Signed()) }

// Text reads a text.
func (r *Reader) Text() string { return r.source.Text() }

// End returns OK if all that was asked for was there, and nothing follows, and otherwise ErrSyntax.
func (r *Reader) End() api.Errno {
	if r.isWrong {
		return api.ErrSyntax
	}
	return r.source.End()
}

// Read reads a list of any length. The closure reads one of its elements.
func Read[T any](r *Reader, one func() T) []T {
	var list []T
	for range r.source.List() {
		list = append(list, one())
		// The head may promise more than there is.
		if r.source.Err() != api.OK {
			return nil
		}
	}
	return list
}
