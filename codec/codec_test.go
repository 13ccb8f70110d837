package codec_test

import (
	"math"
	"math/rand"
	"slices"
	"strings"
	"testing"

	"plenum/api"
	"plenum/codec"
)

// written returns what a Writer has after some methods.
func written(write func(w *codec.Writer)) string {
	w := &codec.Writer{}
	write(w)
	return w.Data()
}

var unsigned = map[uint64]string{
	0: "\x11\x00", 1: "\x11\x01", 127: "\x11\x7f", 128: "\x11\x80", 255: "\x11\xff", 256: "\x12\x01\x00", 65535: "\x12\xff\xff", 65536: "\x13\x01\x00\x00",
	1<<24 - 1: "\x13\xff\xff\xff", 1 << 24: "\x14\x01\x00\x00\x00", 1<<32 - 1: "\x14\xff\xff\xff\xff", 1 << 32: "\x15\x01\x00\x00\x00\x00",
	1 << 40: "\x16\x01\x00\x00\x00\x00\x00", 1 << 48: "\x17\x01\x00\x00\x00\x00\x00\x00", 1<<56 - 1: "\x17\xff\xff\xff\xff\xff\xff\xff",
	1 << 56: "\x18\x01\x00\x00\x00\x00\x00\x00\x00", 0x0123456789abcdef: "\x18\x01\x23\x45\x67\x89\xab\xcd\xef", math.MaxUint64: "\x18\xff\xff\xff\xff\xff\xff\xff\xff",
}

var signed = map[int64]string{
	0: "\x21\x00", 1: "\x21\x01", 127: "\x21\x7f", 128: "\x22\x00\x80", 255: "\x22\x00\xff", 256: "\x22\x01\x00", 32767: "\x22\x7f\xff", 32768: "\x23\x00\x80\x00",
	-1: "\x21\xff", -2: "\x21\xfe", -128: "\x21\x80", -129: "\x22\xff\x7f", -256: "\x22\xff\x00", -32768: "\x22\x80\x00", -32769: "\x23\xff\x7f\xff",
	1<<31 - 1: "\x24\x7f\xff\xff\xff", 1 << 31: "\x25\x00\x80\x00\x00\x00", -1 << 31: "\x24\x80\x00\x00\x00", -1 << 39: "\x25\x80\x00\x00\x00\x00", 1 << 39: "\x26\x00\x80\x00\x00\x00\x00",
	-1 << 47: "\x26\x80\x00\x00\x00\x00\x00", -1 << 55: "\x27\x80\x00\x00\x00\x00\x00\x00", 1 << 55: "\x28\x00\x80\x00\x00\x00\x00\x00\x00",
	-1<<55 - 1: "\x28\xff\x7f\xff\xff\xff\xff\xff\xff", math.MaxInt64: "\x28\x7f\xff\xff\xff\xff\xff\xff\xff", math.MinInt64: "\x28\x80\x00\x00\x00\x00\x00\x00\x00",
}

var (
	longest  = strings.Repeat("x", codec.MaxText)
	texts    = map[string]string{"": "\x30\x11\x00", "a": "\x30\x11\x01a", "\x00\xff": "\x30\x11\x02\x00\xff", longest: "\x30\x12\xff\xff" + longest, longest[:256]: "\x30\x12\x01\x00" + longest[:256]}
	heads    = map[int]string{0: "\x40\x11\x00", 1: "\x40\x11\x01", 255: "\x40\x11\xff", 256: "\x40\x12\x01\x00", codec.MaxList: "\x40\x12\xff\xff"}
	example  = "\x40\x11\x02\x00\x30\x11\x01a" // the list of null and the text "a"
	damaged  = []string{"", "\x03", "\x0f", "\x10", "\x10\x00", "\x19", "\x19" + longest[:9], "\x1f", "\x20", "\x20\x00", "\x29" + longest[:9], "\x2f", "\x31", "\x3f", "\x41", "\x50", "\x80", "\xff"}
	tooShort = []string{"\x11", "\x12", "\x12\x01", "\x18\x01\x00\x00\x00\x00\x00\x00", "\x21", "\x22\x01", "\x28\x80\x00\x00\x00\x00\x00\x00", "\x30", "\x30\x11", "\x30\x11\x01", "\x30\x12\x01\x00" + longest[:255], "\x40", "\x40\x11", "\x40\x12\x01"}
	tooLong  = []string{"\x12\x00\x01", "\x12\x00\xff", "\x13\x00\x01\x00", "\x18\x00\xff\xff\xff\xff\xff\xff\xff", "\x22\xff\xff", "\x22\xff\x80", "\x22\x00\x00", "\x22\x00\x7f", "\x23\xff\x80\x00", "\x28\x00\x7f\xff\xff\xff\xff\xff\xff", "\x28\xff\x80\x00\x00\x00\x00\x00\x00"}
	badHeads = []string{"\x30\x00", "\x30\x01", "\x30\x21\x01a", "\x30\x12\x00\x01a", "\x30\x13\x01\x00\x00" + longest + "x", "\x30\x18\xff\xff\xff\xff\xff\xff\xff\xff", "\x40\x00", "\x40\x21\x00", "\x40\x12\x00\x00", "\x40\x13\x01\x00\x00" + strings.Repeat("\x00", 65536), "\x40\x18\xff\xff\xff\xff\xff\xff\xff\xff", "\x40\x18\x80\x00\x00\x00\x00\x00\x00\x00"}
)

func TestP2_1Writer(t *testing.T) {
	if got := (&codec.Writer{}).Data(); got != "" {
		t.Errorf("the zero Writer: %x", got)
	}
	for _, r := range []struct{ got, want string }{
		{written(func(w *codec.Writer) { w.Null() }), "\x00"},
		{written(func(w *codec.Writer) { w.Bool(false) }), "\x01"},
		{written(func(w *codec.Writer) { w.Bool(true) }), "\x02"},
		{written(func(w *codec.Writer) { w.List(2); w.Null(); w.Text("a") }), example},
	} {
		if r.got != r.want {
			t.Errorf("%x, not %x", r.got, r.want)
		}
	}
	for n, want := range unsigned {
		if got := written(func(w *codec.Writer) { w.Unsigned(n) }); got != want {
			t.Errorf("the unsigned number %d: %x, not %x", n, got, want)
		}
	}
	for n, want := range signed {
		if got := written(func(w *codec.Writer) { w.Signed(n) }); got != want {
			t.Errorf("the signed number %d: %x, not %x", n, got, want)
		}
	}
	for s, want := range texts {
		e := api.ErrInvalid
		if got := written(func(w *codec.Writer) { e = w.Text(s) }); got != want || e != api.OK {
			t.Errorf("a text of %d bytes: %.20x, %d", len(s), got, e)
		}
	}
	for n, want := range heads {
		e := api.ErrInvalid
		if got := written(func(w *codec.Writer) { e = w.List(n) }); got != want || e != api.OK {
			t.Errorf("the head of %d values: %x, %d", n, got, e)
		}
	}
}

func TestP2_1WriterErrors(t *testing.T) {
	w := &codec.Writer{}
	w.Bool(true)
	if e := w.Text(longest + "x"); e != api.ErrTooMany {
		t.Errorf("a text that is too long: %d", e)
	}
	for _, n := range []int{-1, codec.MaxList + 1, math.MinInt, math.MaxInt} {
		if e := w.List(n); e != api.ErrRange {
			t.Errorf("the head of %d values: %d", n, e)
		}
	}
	if w.Data() != "\x02" {
		t.Errorf("errors append: %.20x", w.Data())
	}
	if w.Null(); w.Data() != "\x02\x00" {
		t.Errorf("after errors: %x", w.Data())
	}
}

func TestP2_1DataIsNoReference(t *testing.T) {
	w := &codec.Writer{}
	w.Text("some bytes")
	before := w.Data()
	again := strings.Clone(before)
	for range 100 {
		w.Null()
	}
	if before != again || w.Data() != again+strings.Repeat("\x00", 100) {
		t.Errorf("Data: %x, then %x", before, w.Data())
	}
}

// at fails unless the Reader is at the offset and has the error.
func at(t *testing.T, what string, r *codec.Reader, offset int, e api.Errno) {
	t.Helper()
	if r.Offset() != offset || r.Err() != e {
		t.Errorf("%s: offset %d, error %d, not %d, %d", what, r.Offset(), r.Err(), offset, e)
	}
}

func TestP2_2Reads(t *testing.T) {
	for n, s := range unsigned {
		r := codec.NewReader(s)
		if r.Kind() != codec.Unsigned || r.Unsigned() != n || r.Kind() != codec.End {
			t.Errorf("the unsigned number %d", n)
		}
		at(t, "an unsigned number", r, len(s), api.OK)
	}
	for n, s := range signed {
		r := codec.NewReader(s)
		if r.Kind() != codec.Signed || r.Signed() != n || r.Kind() != codec.End {
			t.Errorf("the signed number %d", n)
		}
		at(t, "a signed number", r, len(s), api.OK)
	}
	for text, s := range texts {
		r := codec.NewReader(s + "more")
		if r.Kind() != codec.Text || r.Text() != text {
			t.Errorf("a text of %d bytes", len(text))
		}
		at(t, "a text", r, len(s), api.OK)
	}
	for n, s := range heads {
		r := codec.NewReader(s)
		if r.Kind() != codec.List || r.List() != n {
			t.Errorf("the head of %d values", n)
		}
		at(t, "a head", r, len(s), api.OK)
	}
}

func TestP2_2ReadsOneAfterTheOther(t *testing.T) {
	r := codec.NewReader("\x00\x01\x02" + example + "\x21\xff\x11\x07")
	at(t, "a new Reader", r, 0, api.OK)
	if r.Kind() != codec.Null || r.End() != api.ErrSyntax {
		t.Error("before null")
	}
	at(t, "Kind and End", r, 0, api.OK)
	r.Null()
	at(t, "null", r, 1, api.OK)
	if r.Kind() != codec.Bool || r.Bool() || r.Kind() != codec.Bool || !r.Bool() {
		t.Error("the boolean values")
	}
	at(t, "the boolean values", r, 3, api.OK)
	if r.Kind() != codec.List || r.List() != 2 {
		t.Error("the list")
	}
	at(t, "the list", r, 6, api.OK)
	r.Null()
	if r.Text() != "a" || r.Signed() != -1 || r.End() != api.ErrSyntax || r.Unsigned() != 7 || r.End() != api.OK {
		t.Error("the last values")
	}
	at(t, "the last values", r, 15, api.OK)
}

// reads are the reading methods; each reports whether it returned its zero value.
var reads = map[int]func(r *codec.Reader) bool{
	codec.Null:     func(r *codec.Reader) bool { r.Null(); return true },
	codec.Bool:     func(r *codec.Reader) bool { return !r.Bool() },
	codec.Unsigned: func(r *codec.Reader) bool { return r.Unsigned() == 0 },
	codec.Signed:   func(r *codec.Reader) bool { return r.Signed() == 0 },
	codec.Text:     func(r *codec.Reader) bool { return r.Text() == "" },
	codec.List:     func(r *codec.Reader) bool { return r.List() == 0 },
}

// rejected fails unless the read of a kind finds nothing of it behind the first byte of s, and nothing is read any more.
func rejected(t *testing.T, kind int, s string) {
	t.Helper()
	r := codec.NewReader(s)
	r.Null()
	at(t, "what precedes", r, 1, api.OK)
	if !reads[kind](r) {
		t.Errorf("kind %d of %.20x: no zero value", kind, s)
	}
	at(t, "the error", r, 1, api.ErrSyntax)
	for other, read := range reads {
		if !read(r) {
			t.Errorf("kind %d after an error: no zero value", other)
		}
		at(t, "after an error", r, 1, api.ErrSyntax)
	}
	if r.Kind() != codec.End || r.End() != api.ErrSyntax {
		t.Errorf("after an error: kind %d, end %d", r.Kind(), r.End())
	}
}

func TestP2_2OtherKinds(t *testing.T) {
	samples := map[int]string{codec.Null: "\x00", codec.Bool: "\x02", codec.Unsigned: "\x11\x05", codec.Signed: "\x21\x05", codec.Text: "\x30\x11\x01a", codec.List: "\x40\x11\x01\x00"}
	for kind := range reads {
		for other, s := range samples {
			if kind != other {
				rejected(t, kind, "\x00"+s)
			}
		}
	}
}

func TestP2_2Errors(t *testing.T) {
	for kind := range reads {
		for _, s := range slices.Concat(damaged, tooShort, tooLong, badHeads) {
			rejected(t, kind, "\x00"+s)
		}
	}
}

func TestP2_2Kind(t *testing.T) {
	for first := range 256 {
		want := codec.End
		switch {
		case first == 0:
			want = codec.Null
		case first == 1 || first == 2:
			want = codec.Bool
		case first >= 0x11 && first <= 0x18:
			want = codec.Unsigned
		case first >= 0x21 && first <= 0x28:
			want = codec.Signed
		case first == 0x30:
			want = codec.Text
		case first == 0x40:
			want = codec.List
		}
		for _, rest := range []string{"", "\x00", "\x11\x01a"} {
			r := codec.NewReader(string([]byte{byte(first)}) + rest)
			if got := r.Kind(); got != want {
				t.Errorf("the kind of %x: %d, not %d", first, got, want)
			}
			at(t, "Kind", r, 0, api.OK)
		}
	}
	if codec.NewReader("").Kind() != codec.End || codec.NewReader("").End() != api.OK {
		t.Error("a Reader of nothing")
	}
}

// A head is read whether or not so many values follow.
func TestP2_2HeadWithoutValues(t *testing.T) {
	r := codec.NewReader("\x40\x11\x05")
	if r.List() != 5 || r.End() != api.OK {
		t.Error("a head alone")
	}
}

// nested returns lists within each other, of which the innermost has a value or none.
func nested(lists int, value string) string {
	if value == "" {
		return strings.Repeat("\x40\x11\x01", lists-1) + "\x40\x11\x00"
	}
	return strings.Repeat("\x40\x11\x01", lists) + value
}

func TestP2_3Depth(t *testing.T) {
	for s, want := range map[string]int{
		"\x00": 0, "\x01": 0, "\x02": 0, "\x11\x07": 0, "\x21\x80": 0, "\x30\x11\x01a": 0, "\x40\x11\x00": 1, example: 1,
		"\x40\x11\x02\x40\x11\x00\x00": 2, "\x40\x11\x03\x40\x11\x01\x40\x11\x00\x00\x40\x11\x00": 3, "\x40\x11\x02\x00\x40\x11\x01\x00": 2,
		nested(15, ""): 15, nested(16, ""): 16, nested(16, "\x00"): 16, nested(17, ""): -1, nested(17, "\x00"): -1, nested(30000, "\x00"): -1,
		example + "\x00": -1, "\x00\x00": -1, "\x40\x11\x01": -1, "\x40\x11\x02\x00": -1, "\x40\x11\x01\x03": -1, "\x40\x11\x01\x22\xff\xff": -1,
		"\x40\x12\xff\xff" + strings.Repeat("\x00", 65535): 1, "\x40\x12\xff\xff" + strings.Repeat("\x00", 65534): -1, "\x40\x12\xff\xff" + strings.Repeat("\x00", 65536): -1,
	} {
		if got := codec.Depth(s); got != want {
			t.Errorf("the depth of %.20x: %d, not %d", s, got, want)
		}
		if got := codec.Valid(s); got != (want >= 0) {
			t.Errorf("Valid of %.20x: %t", s, got)
		}
	}
	for _, s := range slices.Concat(damaged, tooShort, tooLong, badHeads) {
		if codec.Depth(s) != -1 || codec.Valid(s) {
			t.Errorf("%.20x is taken for an encoding", s)
		}
	}
}

// skipped fails unless Skip goes so far.
func skipped(t *testing.T, s string, from, want int, ok bool) {
	t.Helper()
	if got, found := codec.Skip(s, from); got != want || found != ok {
		t.Errorf("Skip of %.20x from %d: %d, %t, not %d, %t", s, from, got, found, want, ok)
	}
}

func TestP2_3Skip(t *testing.T) {
	s := "\x00\x02" + example + "\x12\x01\x00\x22\xff\x7f"
	for from, want := range map[int]int{0: 1, 1: 2, 2: 10, 5: 6, 6: 10, 10: 13, 13: 16} {
		skipped(t, s, from, want, true)
	}
	for _, from := range []int{14, 15, 16, 17, -1, math.MinInt, math.MaxInt} {
		skipped(t, s, from, 0, false)
	}
	skipped(t, "", 0, 0, false)
	skipped(t, nested(16, "\x02")+"\x00", 0, 49, true)
	skipped(t, nested(17, "\x02")+"\x00", 0, 0, false)
	skipped(t, nested(17, "\x02")+"\x00", 3, 52, true)
	for _, s := range slices.Concat(damaged, tooShort, tooLong, badHeads) {
		skipped(t, s, 0, 0, false)
		skipped(t, "\x00"+s, 1, 0, false)
	}
	for _, s := range texts {
		skipped(t, s+"\x00", 0, len(s), true)
	}
}

func TestP2_4(t *testing.T) {
	for s, want := range map[string]string{
		"": "cbf29ce484222325", "a": "af63dc4c8601ec8c", "b": "af63df4c8601f1a5", "foobar": "85944171f73967e8", "\x00": "af63bd4c8601b7df", "\xff": "af64724c8602eb6e",
	} {
		if got := codec.Digest(s); got != want {
			t.Errorf("the digest of %q: %s, not %s", s, got, want)
		}
	}
	var sum uint64 = 14695981039346656037
	for i := range 1000 {
		sum = (sum ^ uint64(byte(i*i))) * 1099511628211
	}
	s := make([]byte, 1000)
	for i := range s {
		s[i] = byte(i * i)
	}
	digest := codec.Digest(string(s))
	if len(digest) != 16 || strings.Trim(digest, "0123456789abcdef") != "" {
		t.Errorf("the form of %s", digest)
	}
	for i := range 16 {
		if "0123456789abcdef"[sum>>(60-4*i)&15] != digest[i] {
			t.Errorf("the digit %d of %s", i, digest)
		}
	}
}

// encodings returns all encodings of exactly so many bytes that consist of bytes of the alphabet, made as the definitions say.
func encodings(alphabet string, length int) []string {
	var list []string
	add := func(s string) {
		if len(s) == length && strings.Trim(s, alphabet) == "" {
			list = append(list, s)
		}
	}
	for _, s := range []string{"\x00", "\x01", "\x02"} {
		add(s)
	}
	for _, bytes := range words(alphabet, length-1) {
		if n := byte(length - 1); n >= 1 && n <= 8 {
			if n == 1 || bytes[0] != 0 {
				add(string(rune(0x10+n)) + bytes)
			}
			// One byte less would do if the first byte only repeats the sign of the second.
			if n == 1 || !(bytes[0] == 0 && bytes[1] < 0x80) && !(bytes[0] == 0xff && bytes[1] >= 0x80) {
				add(string(rune(0x20+n)) + bytes)
			}
		}
	}
	for _, text := range words(alphabet, length-3) {
		add("\x30\x11" + string(rune(len(text))) + text)
	}
	for n := range max(0, length-2) {
		for _, values := range lists(alphabet, n, length-3) {
			add("\x40\x11" + string(rune(n)) + values)
		}
	}
	return list
}

// lists returns all rows of n encodings that have so many bytes in all.
func lists(alphabet string, n, length int) []string {
	if n == 0 && length == 0 {
		return []string{""}
	}
	if n <= 0 || length <= 0 {
		return nil
	}
	var all []string
	for first := 1; first <= length; first++ {
		for _, rest := range lists(alphabet, n-1, length-first) {
			for _, s := range encodings(alphabet, first) {
				all = append(all, s+rest)
			}
		}
	}
	return all
}

// words returns all strings of so many bytes of the alphabet.
func words(alphabet string, length int) []string {
	if length < 0 {
		return nil
	}
	list := []string{""}
	for range length {
		var longer []string
		for _, s := range list {
			for i := range len(alphabet) {
				longer = append(longer, s+alphabet[i:i+1])
			}
		}
		list = longer
	}
	return list
}

func TestP2_5EncodingsAreTheDefinedOnes(t *testing.T) {
	const alphabet = "\x00\x01\x02\x03\x10\x11\x12\x13\x21\x22\x30\x40\x7f\x80\xff"
	var found []string
	for length := range 6 {
		defined := map[string]bool{}
		for _, s := range encodings(alphabet, length) {
			defined[s] = true
		}
		for _, s := range words(alphabet, length) {
			if codec.Valid(s) != defined[s] {
				t.Errorf("Valid of %x: %t", s, codec.Valid(s))
			}
		}
		found = append(found, encodings(alphabet, length)...)
	}
	slices.Sort(found)
	for i := range found[1:] { // whatever has a prefix stands behind it
		if strings.HasPrefix(found[i+1], found[i]) {
			t.Errorf("%x is a prefix of %x", found[i], found[i+1])
		}
	}
}

// copied writes again what is read.
func copied(r *codec.Reader, w *codec.Writer) {
	switch r.Kind() {
	case codec.Null:
		r.Null()
		w.Null()
	case codec.Bool:
		w.Bool(r.Bool())
	case codec.Unsigned:
		w.Unsigned(r.Unsigned())
	case codec.Signed:
		w.Signed(r.Signed())
	case codec.Text:
		w.Text(r.Text())
	case codec.List:
		n := r.List()
		w.List(n)
		for range n {
			copied(r, w)
		}
	}
}

// random appends a random value with a depth of at most room.
func random(source *rand.Rand, w *codec.Writer, room int) {
	switch kind := source.Intn(6); {
	case kind == 0:
		w.Null()
	case kind == 1:
		w.Bool(source.Intn(2) == 1)
	case kind == 2:
		w.Unsigned(source.Uint64() >> source.Intn(64))
	case kind == 3:
		w.Signed(int64(source.Uint64()) >> source.Intn(64))
	case kind == 4 || room == 0:
		w.Text(strings.Repeat("text", source.Intn(100)))
	default:
		n := source.Intn(5)
		w.List(n)
		for range n {
			random(source, w, room-1)
		}
	}
}

func TestP2_5WhatIsWrittenIsRead(t *testing.T) {
	source := rand.New(rand.NewSource(1))
	for range 3000 {
		w, again := &codec.Writer{}, &codec.Writer{}
		random(source, w, codec.MaxDepth)
		s := w.Data()
		if end, ok := codec.Skip(s, 0); !ok || end != len(s) || !codec.Valid(s) {
			t.Fatalf("%x is no encoding", s)
		}
		r := codec.NewReader(s)
		copied(r, again)
		if r.End() != api.OK || again.Data() != s {
			t.Fatalf("%x is read as %x", s, again.Data())
		}
		for n := range len(s) {
			if codec.Valid(s[:n]) {
				t.Fatalf("%x is a prefix that is an encoding", s[:n])
			}
		}
	}
}

// Whatever bytes are given: nothing panics, and what is taken for an encoding is written in the same way.
func TestP2_5RandomBytes(t *testing.T) {
	source := rand.New(rand.NewSource(2))
	const common = "\x00\x01\x02\x11\x12\x18\x21\x22\x28\x30\x40\x40\x40\xff"
	for range 200000 {
		s := make([]byte, source.Intn(12))
		for i := range s {
			s[i] = common[source.Intn(len(common))]
		}
		end, ok := codec.Skip(string(s), 0)
		if valid := codec.Valid(string(s)); valid != (ok && end == len(s)) || valid != (codec.Depth(string(s)) >= 0) {
			t.Fatalf("Skip, Valid and Depth of %x", s)
		}
		r, w := codec.NewReader(string(s)), &codec.Writer{}
		copied(r, w)
		if ok && w.Data() != string(s[:end]) {
			t.Fatalf("%x is read as %x", s, w.Data())
		}
	}
}

func TestP2_5DigestsOfOneOtherByte(t *testing.T) {
	for _, s := range []string{"a", "plenum", longest[:100]} {
		for i := range len(s) {
			seen := map[string]bool{}
			for b := range 256 {
				seen[codec.Digest(s[:i]+string([]byte{byte(b)})+s[i+1:])] = true
			}
			if len(seen) != 256 {
				t.Errorf("%d digests with other bytes at %d of %.20q", len(seen), i, s)
			}
		}
	}
}
