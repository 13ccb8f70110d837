package codec

// The functions of this file read what begins a string, and return how many bytes it has: 0 if it is not there.

// kindOf returns the kind that the first byte of s says.
func kindOf(s string) int {
	if s == "" {
		return End
	}
	switch mark := s[0]; {
	case mark == markNull:
		return Null
	case mark == markFalse, mark == markTrue:
		return Bool
	case mark > markUnsigned && mark <= markUnsigned+numberBytes:
		return Unsigned
	case mark > markSigned && mark <= markSigned+numberBytes:
		return Signed
	case mark == markText:
		return Text
	case mark == markList:
		return List
	}
	return End
}

func takeUnsigned(s string) (n uint64, size int) {
	n, length := takeNumber(s, Unsigned, markUnsigned)
	if length == 0 || length != unsignedSize(n) {
		return 0, 0
	}
	return n, 1 + length
}

func takeSigned(s string) (n int64, size int) {
	word, length := takeNumber(s, Signed, markSigned)
	// Shifting there and back fills the word with the sign.
	unused := 8 * (numberBytes - length)
	n = int64(word<<unused) >> unused
	if length == 0 || length != signedSize(n) {
		return 0, 0
	}
	return n, 1 + length
}

// takeNumber returns the bytes of a number as a word, and how many they are, whether or not fewer would do.
func takeNumber(s string, kind, mark int) (word uint64, length int) {
	if kindOf(s) != kind {
		return 0, 0
	}
	length = int(s[0]) - mark
	if len(s) <= length {
		return 0, 0
	}
	for i := range length {
		word = word<<8 | uint64(s[1+i])
	}
	return word, length
}

func takeText(s string) (text string, size int) {
	length, size := takeHead(s, Text, MaxText)
	if size == 0 || length > len(s)-size {
		return "", 0
	}
	return s[size : size+length], size + length
}

// takeList reads the head of a list.
func takeList(s string) (n, size int) { return takeHead(s, List, MaxList) }

// takeHead reads a mark and the number behind it, which is at most so great.
func takeHead(s string, kind int, most uint64) (n, size int) {
	if kindOf(s) != kind {
		return 0, 0
	}
	count, size := takeUnsigned(s[1:])
	if size == 0 || count > most {
		return 0, 0
	}
	return int(count), 1 + size
}
