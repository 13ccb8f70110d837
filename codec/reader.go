package codec

import "plenum/api"

// Reader reads an encoding. After the first error all reads return zero values.
type Reader struct {
	data   string
	offset int
	err    api.Errno
}

// NewReader returns a Reader of s at the offset 0.
func NewReader(s string) *Reader { return &Reader{data: s} }

// Kind returns the kind of the value at the offset.
func (r *Reader) Kind() int {
	if r.err != api.OK {
		return End
	}
	return kindOf(r.rest())
}

// Null reads null.
func (r *Reader) Null() { r.takeByte(Null) }

// Bool reads a boolean value.
func (r *Reader) Bool() bool { return r.takeByte(Bool) == markTrue }

// Unsigned reads an unsigned number.
func (r *Reader) Unsigned() uint64 {
	n, size := takeUnsigned(r.rest())
	if !r.advance(size) {
		return 0
	}
	return n
}

// Signed reads a signed number.
func (r *Reader) Signed() int64 {
	n, size := takeSigned(r.rest())
	if !r.advance(size) {
		return 0
	}
	return n
}

// Text reads a text.
func (r *Reader) Text() string {
	text, size := takeText(r.rest())
	if !r.advance(size) {
		return ""
	}
	return text
}

// List reads the head of a list and returns the number of its values.
func (r *Reader) List() int {
	n, size := takeList(r.rest())
	if !r.advance(size) {
		return 0
	}
	return n
}

// Err returns the error, or OK.
func (r *Reader) Err() api.Errno { return r.err }

// Offset returns the offset.
func (r *Reader) Offset() int { return r.offset }

// End returns the error; if there is none and bytes are left, ErrSyntax.
func (r *Reader) End() api.Errno {
	if r.err == api.OK && r.offset < len(r.data) {
		return api.ErrSyntax
	}
	return r.err
}

func (r *Reader) rest() string { return r.data[r.offset:] }

// takeByte reads a value whose encoding is one byte, and returns this byte, or 0.
func (r *Reader) takeByte(kind int) byte {
	size := 0
	if r.Kind() == kind {
		size = 1
	}
	if !r.advance(size) {
		return 0
	}
	return r.data[r.offset-1]
}

// advance goes on by a size, and reports whether something was read. The size 0 says that what is asked for is not there.
func (r *Reader) advance(size int) bool {
	if r.err == api.OK && size == 0 {
		r.err = api.ErrSyntax
	}
	if r.err != api.OK {
		return false
	}
	r.offset += size
	return true
}
