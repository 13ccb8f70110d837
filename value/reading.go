package value

import (
	"cmp"
	"strings"

	"plenum/api"
	"plenum/codec"
)

// allFlags is the quality that has all flags.
const allFlags = api.InAlarm | api.InFault | api.Overridden | api.OutOfUse

// isQuality reports whether a number is a quality.
func isQuality(q int) bool { return 0 <= q && q <= allFlags }

// isReading reports whether a reading is valid.
func isReading(r api.Reading) bool {
	return Valid(r.Value) && isQuality(r.Quality) && 0 <= r.At && r.At <= api.MaxInstant
}

// Newest returns the reading that replaces another one.
func Newest(a, b api.Reading) api.Reading {
	if a == b || compareReadings(a, b) > 0 {
		return a
	}
	return b
}

// compareReadings returns 1 if a is newer than b, and -1 if b is newer than a.
func compareReadings(a, b api.Reading) int {
	return cmp.Or(cmp.Compare(a.At, b.At), cmp.Compare(a.Quality, b.Quality), Compare(a.Value, b.Value))
}

// Quality returns the text of quality flags.
func Quality(q int) (string, api.Errno) {
	if !isQuality(q) {
		return "", api.ErrInvalid
	}
	var words []string
	for bit, word := range [4]string{"alarm", "fault", "overridden", "out"} {
		if q&(1<<bit) != 0 {
			words = append(words, word)
		}
	}
	if len(words) == 0 {
		return "ok", api.OK
	}
	return strings.Join(words, "+"), api.OK
}

// Flags returns the quality flags of a text.
func Flags(s string) (int, api.Errno) {
	for q := range allFlags + 1 {
		if text, _ := Quality(q); text == s {
			return q, api.OK
		}
	}
	return 0, api.ErrSyntax
}

// Derived returns the quality of a value that is computed from values with these qualities.
func Derived(list []int) int {
	all := 0
	for _, q := range list {
		all |= q
	}
	derived := all & api.Overridden
	if all&(api.InFault|api.OutOfUse) != 0 {
		derived |= api.InFault
	}
	return derived
}

// readingFields is how many numbers the encoding of a reading has.
const readingFields = 4

// Encode returns the encoding of a reading.
func Encode(r api.Reading) (string, api.Errno) {
	if !isReading(r) {
		return "", api.ErrInvalid
	}
	w := &codec.Writer{}
	w.List(readingFields)
	w.Unsigned(uint64(r.Value.Kind))
	w.Signed(r.Value.N)
	w.Unsigned(uint64(r.Quality))
	w.Unsigned(uint64(r.At))
	return w.Data(), api.OK
}

// Decode returns the reading of an encoding.
func Decode(s string) (api.Reading, api.Errno) {
	in := codec.NewReader(s)
	fields := in.List()
	r := api.Reading{}
	// A number that is too great for an integer becomes negative, which is not valid either.
	r.Value.Kind = int(in.Unsigned())
	r.Value.N = in.Signed()
	r.Quality = int(in.Unsigned())
	r.At = int(in.Unsigned())
	if fields != readingFields || in.End() != api.OK || !isReading(r) {
		return api.Reading{}, api.ErrSyntax
	}
	return r, api.OK
}
