package lists_test

import (
	"math"
	"slices"
	"testing"

	"plenum/api"
	"plenum/codec"
	"plenum/lists"
)

// pair is something that is encoded as the list of a text and a list of numbers.
type pair struct {
	name    string
	numbers []int64
}

func encode(all []pair) string {
	w := &codec.Writer{}
	lists.Write(w, all, func(p pair) {
		w.List(2)
		w.Text(p.name)
		lists.Write(w, p.numbers, w.Signed)
	})
	return w.Data()
}

func decode(s string) ([]pair, api.Errno) {
	r := lists.NewReader(s)
	all := lists.Read(r, func() pair {
		r.Fields(2)
		return pair{r.Text(), lists.Read(r, r.Signed)}
	})
	return all, r.End()
}

func isSame(a, b []pair) bool {
	return slices.EqualFunc(a, b, func(a, b pair) bool { return a.name == b.name && slices.Equal(a.numbers, b.numbers) })
}

func TestWrite(t *testing.T) {
	const want = "\x40\x11\x02" + "\x40\x11\x02\x30\x11\x01a\x40\x11\x02\x21\x00\x21\xff" + "\x40\x11\x02\x30\x11\x00\x40\x11\x00"
	if got := encode([]pair{{"a", []int64{0, -1}}, {}}); got != want {
		t.Errorf("%x, not %x", got, want)
	}
	if got := encode(nil); got != "\x40\x11\x00" {
		t.Errorf("no elements: %x", got)
	}
}

func TestRead(t *testing.T) {
	for _, all := range [][]pair{nil, {{}}, {{"a", []int64{0, -1, math.MaxInt64, math.MinInt64}}, {"", nil}, {"b", []int64{256}}}} {
		s := encode(all)
		if got, e := decode(s); e != api.OK || !isSame(got, all) {
			t.Errorf("%v, %d, not %v", got, e, all)
		}
		for end := range s {
			if _, e := decode(s[:end]); e != api.ErrSyntax {
				t.Errorf("the first %d bytes of %x: %d", end, s, e)
			}
		}
		if _, e := decode(s + "\x00"); e != api.ErrSyntax {
			t.Errorf("%x with a byte behind it: %d", s, e)
		}
	}
}

func TestReadErrors(t *testing.T) {
	for _, s := range []string{
		"", "\x00", "\x21\x00", "\x40\x11\x01\x00", "\x40\x12\x00\x00",
		// A list with other lengths than that of a pair, even if what is asked for is there.
		"\x40\x11\x01" + "\x40\x11\x01\x30\x11\x01a\x40\x11\x00", "\x40\x11\x01" + "\x40\x11\x03\x30\x11\x01a\x40\x11\x00", "\x40\x11\x01" + "\x40\x11\x00",
		// Other kinds of values.
		"\x40\x11\x01" + "\x40\x11\x02\x21\x00\x40\x11\x00", "\x40\x11\x01" + "\x40\x11\x02\x30\x11\x01a\x21\x00", "\x40\x11\x01" + "\x40\x11\x02\x30\x11\x01a\x40\x11\x01\x11\x00", "\x40\x11\x01" + "\x40\x11\x02\x30\x11\x01a\x40\x11\x01\x22\x00\x01",
		// Heads that promise more than there is.
		"\x40\x12\xff\xff", "\x40\x12\xff\xff" + "\x40\x11\x02\x30\x11\x01a\x40\x12\xff\xff",
	} {
		if _, e := decode(s); e != api.ErrSyntax {
			t.Errorf("%x: %d", s, e)
		}
	}
}

// A list that ends too early is not made as long as its head says.
func TestReadEnd(t *testing.T) {
	calls := 0
	r := lists.NewReader("\x40\x12\xff\xff\x21\x01\x21\x02")
	list := lists.Read(r, func() int64 {
		calls++
		return r.Signed()
	})
	if len(list) != 0 || calls != 3 || r.End() != api.ErrSyntax {
		t.Errorf("%d elements, %d of them read, %d", len(list), calls, r.End())
	}
}

func TestInt(t *testing.T) {
	for _, n := range []int{0, -1, 1000, math.MaxInt, math.MinInt} {
		w := &codec.Writer{}
		w.Signed(int64(n))
		r := lists.NewReader(w.Data())
		if got := r.Int(); got != n || r.End() != api.OK {
			t.Errorf("%d: %d, %d", n, got, r.End())
		}
	}
	r := lists.NewReader("\x11\x05")
	if got := r.Int(); got != 0 || r.End() != api.ErrSyntax {
		t.Errorf("an unsigned number: %d, %d", got, r.End())
	}
}
