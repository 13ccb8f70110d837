// Package codec is layer 2: a tagged, canonical encoding of values as bytes. See shared/doc/02-codec.md.
package codec

// Limits of encodings.
const (
	MaxDepth = 16
	MaxText  = 65535
	MaxList  = 65535
)

// The kinds of what can be read next.
const (
	End      = 0 // nothing more, or something that is no value
	Null     = 1
	Bool     = 2
	Unsigned = 3
	Signed   = 4
	Text     = 5
	List     = 6
)

// The first bytes of encodings. The size of a number is added to its mark.
const (
	markNull     = 0x00
	markFalse    = 0x01
	markTrue     = 0x02
	markUnsigned = 0x10
	markSigned   = 0x20
	markText     = 0x30
	markList     = 0x40
)

// numberBytes is the greatest size of a number.
const numberBytes = 8

// Skip returns the offset behind the value that begins at an offset of s, and whether there is one.
func Skip(s string, at int) (int, bool) {
	if at < 0 || at > len(s) {
		return 0, false
	}
	size, _ := measure(s[at:], MaxDepth)
	if size == 0 {
		return 0, false
	}
	return at + size, true
}

// Valid reports whether s is the encoding of one value.
func Valid(s string) bool { return Depth(s) >= 0 }

// Depth returns how many lists are within each other in the encoding of one value, or -1.
func Depth(s string) int {
	size, depth := measure(s, MaxDepth)
	if size == 0 || size < len(s) {
		return -1
	}
	return depth
}

// measure returns the size of the encoding that begins s, and the depth of its value. The size is 0 if none begins s, or if its depth is greater than room.
func measure(s string, room int) (size, depth int) {
	switch kindOf(s) {
	case Null, Bool:
		size = 1
	case Unsigned:
		_, size = takeUnsigned(s)
	case Signed:
		_, size = takeSigned(s)
	case Text:
		_, size = takeText(s)
	case List:
		size, depth = measureList(s, room)
	}
	return size, depth
}

// measureList is measure for a list.
func measureList(s string, room int) (size, depth int) {
	n, size := takeList(s)
	if size == 0 || room == 0 {
		return 0, 0
	}
	for range n {
		more, inner := measure(s[size:], room-1)
		if more == 0 {
			return 0, 0
		}
		size += more
		depth = max(depth, inner)
	}
	return size, depth + 1
}

// Digest returns the digest of s, as 16 hexadecimal digits.
func Digest(s string) string {
	sum := uint64(14695981039346656037)
	for i := range len(s) {
		sum ^= uint64(s[i])
		sum *= 1099511628211
	}
	const digits = "0123456789abcdef"
	var text [16]byte
	for i := range text {
		text[i] = digits[sum>>(60-4*i)&15]
	}
	return string(text[:])
}
