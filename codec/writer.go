package codec

import (
	"math/bits"

	"plenum/api"
)

// Writer builds an encoding. The zero Writer is empty.
type Writer struct {
	data []byte
}

// Null appends null.
func (w *Writer) Null() { w.data = append(w.data, markNull) }

// Bool appends a boolean value.
func (w *Writer) Bool(b bool) {
	if b {
		w.data = append(w.data, markTrue)
	} else {
		w.data = append(w.data, markFalse)
	}
}

// Unsigned appends an unsigned number.
func (w *Writer) Unsigned(n uint64) { w.number(markUnsigned, n, unsignedSize(n)) }

// Signed appends a signed number.
func (w *Writer) Signed(n int64) { w.number(markSigned, uint64(n), signedSize(n)) }

// Text appends a text.
func (w *Writer) Text(s string) api.Errno {
	if len(s) > MaxText {
		return api.ErrTooMany
	}
	w.data = append(w.data, markText)
	w.Unsigned(uint64(len(s)))
	w.data = append(w.data, s...)
	return api.OK
}

// List appends the head of a list of n values, which are appended next.
func (w *Writer) List(n int) api.Errno {
	if n < 0 || n > MaxList {
		return api.ErrRange
	}
	w.data = append(w.data, markList)
	w.Unsigned(uint64(n))
	return api.OK
}

// Data returns what was appended.
func (w *Writer) Data() string { return string(w.data) }

// number appends a number in so many bytes.
func (w *Writer) number(mark byte, n uint64, size int) {
	var all [numberBytes]byte
	for i := range all {
		all[len(all)-1-i] = byte(n >> (8 * i))
	}
	w.data = append(w.data, mark+byte(size))
	w.data = append(w.data, all[len(all)-size:]...)
}

// unsignedSize returns how many bytes an unsigned number needs.
func unsignedSize(n uint64) int { return max(1, (bits.Len64(n)+7)/8) }

// signedSize returns how many bytes a number needs in two's complement, in which the sign takes one bit.
func signedSize(n int64) int {
	if n < 0 {
		n = ^n
	}
	return bits.Len64(uint64(n))/8 + 1
}
