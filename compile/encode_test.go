package compile_test

import (
	"math"
	"math/rand"
	"reflect"
	"slices"
	"strings"
	"testing"

	"plenum/api"
	"plenum/compile"
	"plenum/machine"
)

// codeOf returns the encoding of the code of a unit.
func codeOf(u compile.Unit) string {
	s, _ := machine.Encode(u.Code)
	return s
}

func TestP28_4Encode(t *testing.T) {
	const code = "\x40\x11\x06\x21\x00\x21\x00\x21\x00\x21\x00\x40\x11\x00\x40\x11\x00"
	const want = "\x40\x11\x06" + "\x30\x11\x01p" + "\x21\x05" + "\x30\x11\x11" + code + "\x40\x11\x00" + "\x40\x11\x00" + "\x40\x11\x00"
	if s, e := compile.Encode(compile.Unit{Name: "p", Period: 5}); s != want || e != api.OK {
		t.Errorf("Encode of no code: %x, %d", s, e)
	}
	u := emitter(api.Multi, -2)
	u.Code.Inputs, u.Inputs = 1, []compile.Port{{"room", api.Analog, 0}}
	const ports = "\x40\x11\x01\x21\xfe" + "\x40\x11\x01\x40\x11\x03\x30\x11\x04room\x21\x01\x21\x00" + "\x40\x11\x01\x40\x11\x03\x30\x11\x01x\x21\x03\x21\x0a"
	s, e := compile.Encode(u)
	if e != api.OK || !strings.HasSuffix(s, codeOf(u)+ports) || s != encoded(u, codeOf(u)) {
		t.Errorf("Encode: %x, %d", s, e)
	}
	for i, u := range []compile.Unit{sample(), emitter(api.Analog, math.MinInt64), {Name: "p", Period: api.DaySeconds}} {
		s, e := compile.Encode(u)
		v, f := compile.Decode(s)
		if e != api.OK || f != api.OK || s != encoded(u, codeOf(u)) || !compile.Equal(u, v) || compile.Check(v) != api.OK {
			t.Errorf("%d: %x, %d, %v, %d", i, s, e, v, f)
		}
	}
}

// filled returns a unit whose code has an encoding of so many bytes, more than 60000.
func filled(t *testing.T, size int) compile.Unit {
	t.Helper()
	u := compile.Unit{Name: "p", Period: 1, Code: api.Code{Regs: 1, Instrs: make([]api.Instr, 4000)}}
	for i := range u.Code.Instrs {
		u.Code.Instrs[i].Op = machine.OpConst
	}
	// Each byte more of a number is one more of the encoding.
	missing := size - len(codeOf(u))
	for i := 0; missing > 0; i++ {
		more := min(missing, 7)
		u.Code.Instrs[i].N = 1 << (8*more - 1)
		missing -= more
	}
	if len(codeOf(u)) != size {
		t.Fatalf("the encoding has %d bytes", len(codeOf(u)))
	}
	return u
}

func TestP28_4TooMany(t *testing.T) {
	u := filled(t, 65535)
	s, e := compile.Encode(u)
	v, f := compile.Decode(s)
	if e != api.OK || f != api.OK || !compile.Equal(u, v) {
		t.Errorf("with 65535 bytes: %d, %d", e, f)
	}
	for _, size := range []int{65536, 66000} {
		u := filled(t, size)
		if s, e := compile.Encode(u); e != api.ErrTooMany || s != "" {
			t.Errorf("with %d bytes: %d bytes, %d", size, len(s), e)
		}
		// It is valid nevertheless.
		if lists, e := compile.Run(u, [][]api.Value{nil}, 1); compile.Check(u) != api.OK || e != api.OK || len(lists) != 1 {
			t.Errorf("with %d bytes: %d, %v, %d", size, compile.Check(u), lists, e)
		}
		u.Name = ""
		if _, e := compile.Encode(u); e != api.ErrName {
			t.Errorf("with %d bytes and no name: %d", size, e)
		}
	}
}

// checkDecode tests a string that is not decoded.
func checkDecode(t *testing.T, s string, want api.Errno, place string) {
	t.Helper()
	if u, e := compile.Decode(s); e != want || !reflect.DeepEqual(u, compile.Unit{}) {
		t.Errorf("%s: %v, %d, not %d", place, u, e, want)
	}
}

func TestP28_4DecodeErrors(t *testing.T) {
	good := codeOf(sample())
	empty := codeOf(compile.Unit{})
	for i, list := range unitErrors() {
		for _, w := range list {
			u := changed(w.change)
			code, e := machine.Encode(u.Code)
			if e == api.OK {
				checkDecode(t, encoded(u, code), api.ErrInvalid, "a unit that is not valid")
				// The errors of the code come before those of the unit.
				checkDecode(t, encoded(u, "x"), api.ErrSyntax, "a unit that is not valid, and no code")
			} else if i != 3 {
				t.Errorf("the code of %v has the error %d", u, e)
			}
		}
	}
	for code, want := range map[string]api.Errno{
		"": api.ErrSyntax, "x": api.ErrSyntax, good + "\x00": api.ErrSyntax, good[:len(good)-1]: api.ErrSyntax,
		strings.Replace(empty, "\x21\x00", "\x22\x02\x01", 1): api.ErrTooMany, strings.Replace(empty, "\x21\x00", "\x21\xff", 1): api.ErrInvalid,
		strings.Replace(good, "ondelay", "undelay", 1): api.ErrUnknown, strings.Replace(good, "\x30\x11\x04time\x21\x05", "\x30\x11\x04time\x21\xfb", 1): api.ErrRange, strings.Replace(good, "\x40\x11\x05\x21\x06\x21\x00\x21\x02\x21\x00\x21\x01", "\x40\x11\x05\x21\x06\x21\x00\x21\x02\x21\x00\x21\x00", 1): api.ErrConflict, strings.Replace(good, "\x40\x11\x05\x21\x03\x21\x02", "\x40\x11\x05\x21\x03\x21\x01", 1): api.ErrState,
	} {
		checkDecode(t, encoded(sample(), code), want, "code with an error")
		// The form of the list comes first.
		checkDecode(t, encoded(sample(), code)+"\x00", api.ErrSyntax, "code with an error, and a byte too much")
		u := sample()
		u.Name, u.Period = "", 0
		checkDecode(t, encoded(u, code), want, "code with an error in a unit that is not valid")
	}
}

func TestP28_4DecodeSyntax(t *testing.T) {
	code := codeOf(compile.Unit{})
	head := "\x40\x11\x06\x30\x11\x01p\x21\x05\x30\x11\x11" + code
	const list, port = "\x40\x11\x00", "\x40\x11\x03\x30\x11\x01x\x21\x03\x21\x00"
	if _, e := compile.Decode(head + list + list + list); e != api.OK {
		t.Fatalf("the encoding is not decoded: %d", e)
	}
	ports := func(port string) string { return head + list + "\x40\x11\x01" + port + list }
	checkDecode(t, ports(port), api.ErrInvalid, "a port too much")
	for _, s := range []string{
		"", "x", "\x00", list, head, head + list + list, head + list + list + list + list, head + list + list + list + "\x00", code,
		"\x40\x11\x05" + head[3:] + list + list, "\x40\x11\x07" + head[3:] + list + list + list + list, "\x40\x12\x00\x06" + head[3:] + list + list + list,
		strings.Replace(head, "\x30\x11\x01p", "\x21\x01", 1) + list + list + list, strings.Replace(head, "\x21\x05", "\x11\x05", 1) + list + list + list, strings.Replace(head, "\x21\x05", "\x22\x00\x05", 1) + list + list + list, strings.Replace(head, "\x30\x11\x11"+code, code, 1) + list + list + list, strings.Replace(head, "\x30\x11\x11", "\x30\x11\x10", 1) + list + list + list,
		head + "\x40\x11\x01\x11\x00" + list + list, head + "\x40\x11\x02\x21\x00" + list + list, head + "\x40\x13\x01\x00\x00" + list + list, head + "\x40\x12\xff\xff" + list + list, head + "\x00" + list + list,
		ports("\x40\x11\x02\x30\x11\x01x\x21\x03"), ports("\x40\x11\x04\x30\x11\x01x\x21\x03\x21\x00\x21\x00"), ports("\x40\x11\x03\x21\x00\x21\x03\x21\x00"), ports("\x40\x11\x03\x30\x11\x01x\x11\x03\x21\x00"), ports("\x40\x11\x03\x30\x11\x01x\x21\x03\x02"), ports("\x30\x11\x01x"),
		head + list + list + "\x40\x11\x01" + port[:len(port)-1], head + list + list + "\x40\x11\x02" + port, head + list + list + "\x21\x00",
	} {
		checkDecode(t, s, api.ErrSyntax, "no encoding")
	}
}

// A decoder accepts exactly the encodings: whatever is changed of one, it is no encoding, or that of another unit.
func TestP28_4Decode(t *testing.T) {
	source := rand.New(rand.NewSource(284))
	s := encoded(sample(), codeOf(sample()))
	for end := range s {
		checkDecode(t, s[:end], api.ErrSyntax, "the beginning of an encoding")
	}
	found := map[api.Errno]int{}
	for range 20000 {
		changed := []byte(s)
		for range 1 + source.Intn(2) {
			at := source.Intn(len(changed))
			switch source.Intn(6) {
			case 0:
				changed = slices.Delete(changed, at, at+1)
			case 1:
				changed = slices.Insert(changed, at, byte(source.Intn(256)))
			default:
				changed[at] = byte(int(changed[at]) + source.Intn(5) - 2)
			}
		}
		u, e := compile.Decode(string(changed))
		found[e]++
		if e != api.OK {
			if !reflect.DeepEqual(u, compile.Unit{}) {
				t.Fatalf("Decode of %x: %v, %d", changed, u, e)
			}
			continue
		}
		if again, e := compile.Encode(u); again != string(changed) || e != api.OK || compile.Check(u) != api.OK {
			t.Fatalf("Decode accepts %x, but the encoding is %x, %d", changed, again, e)
		}
	}
	if found[api.OK] < 500 || found[api.ErrSyntax] < 500 || found[api.ErrInvalid] < 500 {
		t.Errorf("the errors: %v", found)
	}
}
