package value_test

import (
	"math"
	"math/rand"
	"strings"
	"testing"

	"plenum/api"
	"plenum/codec"
	"plenum/value"
)

// readings are valid readings.
func readings() []api.Reading {
	var list []api.Reading
	for _, v := range valid() {
		for _, q := range []int{0, 1, 2, 4, 8, 15} {
			for _, at := range []int{0, 1, 255, 86400, api.MaxInstant - 1, api.MaxInstant} {
				list = append(list, api.Reading{Value: v, Quality: q, At: at})
			}
		}
	}
	return list
}

// strange are readings that are not valid.
func strange() []api.Reading {
	var list []api.Reading
	for _, v := range invalid() {
		list = append(list, api.Reading{Value: v}, api.Reading{Value: v, Quality: 16, At: -1})
	}
	for _, q := range []int{-1, 16, 17, 32, math.MaxInt, math.MinInt} {
		list = append(list, api.Reading{Quality: q}, api.Reading{Value: analog(5), Quality: q, At: 5})
	}
	for _, at := range []int{-1, api.MaxInstant + 1, math.MaxInt, math.MinInt} {
		list = append(list, api.Reading{At: at}, api.Reading{Value: multi(2), Quality: 3, At: at})
	}
	return list
}

// newest is the definition of Newest.
func newest(a, b api.Reading) api.Reading {
	greater := []struct{ less, more bool }{
		{a.At < b.At, a.At > b.At}, {a.Quality < b.Quality, a.Quality > b.Quality}, {a.Value.Kind < b.Value.Kind, a.Value.Kind > b.Value.Kind}, {a.Value.N < b.Value.N, a.Value.N > b.Value.N},
	}
	for _, c := range greater {
		if c.less {
			return b
		} else if c.more {
			return a
		}
	}
	return a
}

func TestP12_4Newest(t *testing.T) {
	a := api.Reading{Value: analog(5), Quality: 1, At: 60}
	for _, c := range []struct{ old, next api.Reading }{
		{a, api.Reading{Value: analog(4), At: 61}}, {a, api.Reading{At: 61}}, {a, api.Reading{Value: analog(4), Quality: 2, At: 60}}, {a, api.Reading{Value: analog(6), Quality: 1, At: 60}}, {a, api.Reading{Value: binary(0), Quality: 1, At: 60}}, {api.Reading{Quality: 1, At: 60}, a}, {api.Reading{Value: analog(-5), Quality: 1, At: 60}, a}, {api.Reading{Value: multi(9), Quality: 15, At: 59}, a},
		// Invalid ones too.
		{api.Reading{At: -1, Quality: 99}, api.Reading{}}, {api.Reading{At: math.MinInt}, api.Reading{At: math.MaxInt}}, {api.Reading{Quality: math.MinInt}, api.Reading{Quality: math.MaxInt}}, {api.Reading{Quality: -1}, api.Reading{}}, {api.Reading{Value: analog(math.MinInt64)}, api.Reading{Value: analog(math.MaxInt64)}}, {api.Reading{Value: api.Value{Kind: -1, N: 9}}, api.Reading{}},
	} {
		if value.Newest(c.old, c.next) != c.next || value.Newest(c.next, c.old) != c.next {
			t.Errorf("Newest of %v and %v", c.old, c.next)
		}
	}
	if value.Newest(a, a) != a || value.Newest(api.Reading{}, api.Reading{}) != (api.Reading{}) {
		t.Error("Newest of the same reading")
	}
}

func TestP12_7Newest(t *testing.T) {
	source := rand.New(rand.NewSource(124))
	few := func() api.Reading {
		return api.Reading{Value: api.Value{Kind: source.Intn(3), N: source.Int63n(3) - 1}, Quality: source.Intn(3) - 1, At: source.Intn(3) - 1}
	}
	for range 100000 {
		a, b, c := few(), few(), few()
		if value.Newest(a, b) != newest(a, b) || value.Newest(a, b) != value.Newest(b, a) {
			t.Fatalf("Newest of %v and %v: %v", a, b, value.Newest(a, b))
		}
		if value.Newest(value.Newest(a, b), c) != value.Newest(a, value.Newest(b, c)) || value.Newest(a, a) != a {
			t.Fatalf("Newest of %v, %v and %v", a, b, c)
		}
	}
}

// qualities are the texts of all qualities.
var qualities = [16]string{
	"ok", "alarm", "fault", "alarm+fault", "overridden", "alarm+overridden", "fault+overridden", "alarm+fault+overridden",
	"out", "alarm+out", "fault+out", "alarm+fault+out", "overridden+out", "alarm+overridden+out", "fault+overridden+out", "alarm+fault+overridden+out",
}

func TestP12_5Quality(t *testing.T) {
	for q, want := range qualities {
		if s, e := value.Quality(q); s != want || e != api.OK {
			t.Errorf("Quality(%d): %q, %d", q, s, e)
		}
		if n, e := value.Flags(want); n != q || e != api.OK {
			t.Errorf("Flags(%q): %d, %d", want, n, e)
		}
	}
	for _, q := range []int{-1, 16, 17, 31, 32, -16, math.MaxInt, math.MinInt} {
		if s, e := value.Quality(q); s != "" || e != api.ErrInvalid {
			t.Errorf("Quality(%d): %q, %d", q, s, e)
		}
	}
	for _, s := range []string{
		"", " ", "OK", "ok ", " ok", "ok+alarm", "alarm+ok", "ok+ok", "Alarm", "alarm+", "+alarm", "alarm++fault", "alarm+alarm", "fault+alarm", "overridden+alarm", "out+alarm", "alarm fault", "alarm,fault", "alarm+fault ", "alarm + fault", "override", "outofuse", "0", "1", "null", "alar", "alarms", "+", "alarm+fault+overridden+out+", "alarm+fault+overridden+out+out", "out+overridden+fault+alarm", strings.Repeat("alarm+", 1<<16), "ok\x00",
	} {
		if q, e := value.Flags(s); q != 0 || e != api.ErrSyntax {
			t.Errorf("Flags(%q): %d, %d", s, q, e)
		}
	}
}

// All texts of up to four words.
func TestP12_5Flags(t *testing.T) {
	words := []string{"ok", "alarm", "fault", "overridden", "out", ""}
	known := map[string]int{}
	for q, s := range qualities {
		known[s] = q
	}
	list := append([]string(nil), words...)
	for range 4 {
		var longer []string
		for _, s := range list {
			q, e := value.Flags(s)
			want, ok := known[s]
			if q != want || (e == api.OK) != ok || !ok && e != api.ErrSyntax {
				t.Errorf("Flags(%q): %d, %d", s, q, e)
			}
			for _, word := range words {
				longer = append(longer, s+"+"+word)
			}
		}
		list = longer
	}
}

func TestP12_5Derived(t *testing.T) {
	for want, lists := range map[int][][]int{
		0:                            {nil, {}, {0}, {0, 0}, {api.InAlarm}, {api.InAlarm, 0, api.InAlarm}, {16}, {32 + 1, 64}, {math.MinInt}, {-16}},
		api.InFault:                  {{api.InFault}, {api.OutOfUse}, {0, api.InFault}, {api.OutOfUse, 0}, {api.InFault, api.OutOfUse}, {api.InAlarm, api.OutOfUse}, {api.InFault + api.InAlarm}, {api.InFault + api.OutOfUse}, {16 + api.InFault}, {-16 + api.OutOfUse, 64}},
		api.Overridden:               {{api.Overridden}, {0, api.Overridden, api.Overridden}, {api.Overridden + api.InAlarm}, {api.InAlarm, api.Overridden}, {16 + 4, 1}, {math.MinInt + api.Overridden}},
		api.InFault + api.Overridden: {{api.InFault + api.Overridden}, {api.OutOfUse, api.Overridden}, {api.InAlarm, api.OutOfUse, api.Overridden}, {15}, {-1}, {math.MaxInt}, {16 + 4, 16 + 2}, {0, 0, api.Overridden, 0, api.InFault}},
	} {
		for _, list := range lists {
			if got := value.Derived(list); got != want {
				t.Errorf("Derived(%v): %d, not %d", list, got, want)
			}
		}
	}
}

// encoding returns the encoding of a list of numbers, unsigned or signed.
func encoding(list ...any) string {
	w := &codec.Writer{}
	w.List(len(list))
	for _, x := range list {
		switch n := x.(type) {
		case uint64:
			w.Unsigned(n)
		case int:
			w.Unsigned(uint64(n))
		case int64:
			w.Signed(n)
		case string:
			w.Text(n)
		case bool:
			w.Bool(n)
		}
	}
	return w.Data()
}

func TestP12_6Encode(t *testing.T) {
	for want, r := range map[string]api.Reading{
		"\x40\x11\x04\x11\x01\x21\x05\x11\x01\x11\x3c":                 {Value: analog(5), Quality: api.InAlarm, At: 60},
		"\x40\x11\x04\x11\x00\x21\x00\x11\x00\x11\x00":                 {},
		"\x40\x11\x04\x11\x01\x21\xff\x11\x0f\x12\x01\x00":             {Value: analog(-1), Quality: 15, At: 256},
		"\x40\x11\x04\x11\x01\x22\x00\x80\x11\x02\x11\xff":             {Value: analog(128), Quality: api.InFault, At: 255},
		"\x40\x11\x04\x11\x02\x21\x01\x11\x00\x15\x01\x78\x30\xd5\x7f": {Value: binary(1), At: api.MaxInstant},
		"\x40\x11\x04\x11\x03\x21\x10\x11\x08\x11\x01":                 {Value: multi(16), Quality: api.OutOfUse, At: 1},
	} {
		if s, e := value.Encode(r); s != want || e != api.OK {
			t.Errorf("Encode(%v): %x, %d, not %x", r, s, e, want)
		}
	}
	seen := map[string]bool{}
	for _, r := range readings() {
		s, e := value.Encode(r)
		if want := encoding(r.Value.Kind, r.Value.N, r.Quality, r.At); s != want || e != api.OK || seen[s] {
			t.Errorf("Encode(%v): %x, %d, not %x", r, s, e, want)
		}
		seen[s] = true
		if again, e := value.Decode(s); again != r || e != api.OK {
			t.Errorf("Decode(%x): %v, %d, not %v", s, again, e, r)
		}
	}
	for _, r := range strange() {
		if s, e := value.Encode(r); s != "" || e != api.ErrInvalid {
			t.Errorf("Encode(%v): %x, %d", r, s, e)
		}
	}
}

// checkNoReading tests Decode with what is no encoding of a reading.
func checkNoReading(t *testing.T, s string) {
	t.Helper()
	if r, e := value.Decode(s); r != (api.Reading{}) || e != api.ErrSyntax {
		t.Errorf("Decode(%x): %v, %d", s, r, e)
	}
}

func TestP12_6DecodeErrors(t *testing.T) {
	good := encoding(1, int64(5), 1, 60)
	if r, e := value.Decode(good); r != (api.Reading{Value: analog(5), Quality: 1, At: 60}) || e != api.OK {
		t.Fatalf("Decode(%x): %v, %d", good, r, e)
	}
	// Lists of other values, too few or too many ones, and no lists.
	null := strings.Replace(good, "\x11\x01", "\x00", 1)
	for _, s := range []string{
		"", " ", "\x00", "\x01", "\x40", "\x40\x11\x00", "x" + good, good + "x", good + "\x00", good + good, null, encoding(), encoding(1), encoding(1, int64(5)), encoding(1, int64(5), 1), encoding(1, int64(5), 1, 60, 0), encoding(1, int64(5), 1, 60, int64(0)),
		encoding(int64(1), int64(5), 1, 60), encoding(1, 5, 1, 60), encoding(1, int64(5), int64(1), 60), encoding(1, int64(5), 1, int64(60)), encoding("1", int64(5), 1, 60), encoding(1, "5", 1, 60), encoding(1, int64(5), "alarm", 60), encoding(1, int64(5), 1, "60"), encoding(true, int64(5), 1, 60), encoding(1, true, 1, 60), encoding(int64(0), int64(0), int64(0), int64(0)), encoding(0, 0, 0, 0),
		"\x40\x11\x03\x11\x01\x21\x05\x11\x01\x11\x3c", "\x40\x11\x05\x11\x01\x21\x05\x11\x01\x11\x3c", "\x40\x12\x00\x04\x11\x01\x21\x05\x11\x01\x11\x3c", "\x40\x11\x04\x12\x00\x01\x21\x05\x11\x01\x11\x3c", "\x40\x11\x04\x11\x01\x22\x00\x05\x11\x01\x11\x3c", "\x40\x11\x04\x11\x01\x21\x05\x12\x00\x01\x11\x3c", "\x40\x11\x04\x11\x01\x21\x05\x11\x01\x12\x00\x3c", "\x40\x11\x01" + good, "\x11\x01\x21\x05\x11\x01\x11\x3c", "\x30\x11\x04abcd",
	} {
		checkNoReading(t, s)
	}
	for i := range len(good) {
		checkNoReading(t, good[:i])
		checkNoReading(t, good[:i]+good[i+1:])
	}
	// Numbers of no valid reading; some of them are too great for an integer.
	for _, r := range strange() {
		checkNoReading(t, encoding(uint64(r.Value.Kind), r.Value.N, uint64(r.Quality), uint64(r.At)))
	}
	for _, n := range []uint64{1 << 32, 1<<32 + 1, 1 << 63, 1<<63 + 1, math.MaxUint64, 1<<64 - 16} {
		checkNoReading(t, encoding(n, int64(0), 0, 0))
		checkNoReading(t, encoding(0, int64(0), n, 0))
		checkNoReading(t, encoding(0, int64(0), 0, n<<1|n))
	}
}

// What is decoded is encoded as the same bytes: an encoding belongs to one reading, and no others are accepted.
func TestP12_7Encodings(t *testing.T) {
	source := rand.New(rand.NewSource(126))
	all, good := readings(), 0
	for range 300000 {
		s, _ := value.Encode(all[source.Intn(len(all))])
		data := []byte(s)
		for range 1 + source.Intn(3) {
			data[source.Intn(len(data))] = []byte{0, 1, 2, 3, 5, 16, 0x11, 0x12, 0x21, 0x22, 0x40, 0xff, byte(source.Intn(256))}[source.Intn(13)]
		}
		r, e := value.Decode(string(data))
		if e != api.OK {
			checkNoReading(t, string(data))
			continue
		}
		good++
		if again, e := value.Encode(r); again != string(data) || e != api.OK {
			t.Fatalf("Decode(%x): %v, encoded as %x, %d", data, r, again, e)
		}
	}
	if good < 1000 {
		t.Errorf("%d readings", good)
	}
}
