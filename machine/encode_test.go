package machine_test

import (
	"math"
	"math/rand"
	"reflect"
	"slices"
	"strings"
	"testing"

	"plenum/api"
	"plenum/machine"
)

func TestP27_3Encode(t *testing.T) {
	const one = "\x40\x11\x05\x21\x01\x21\x00\x21\x00\x21\x00\x22\x01\xf4" // const r0 500
	const called = "\x40\x11\x05\x21\x12\x21\x07\x21\xff\x21\x00\x21\x00"  // call 0, with other fields
	const limit = "\x40\x11\x05\x30\x11\x05limit\x40\x11\x01\x40\x11\x02\x30\x11\x04high\x22\x00\x80\x21\x01\x40\x11\x01\x21\x00\x40\x11\x01\x21\x02"
	for want, c := range map[string]api.Code{
		"\x40\x11\x06\x21\x00\x21\x00\x21\x00\x21\x00\x40\x11\x00\x40\x11\x00":                             {},
		"\x40\x11\x06\x21\x01\x21\x02\x22\x01\x00\x21\x03\x40\x11\x01" + one + "\x40\x11\x00":              {Regs: 1, Inputs: 2, Outputs: 256, States: 3, Instrs: []api.Instr{{Op: 1, N: 500}}},
		"\x40\x11\x06\x21\x03\x21\x00\x21\x00\x21\x01\x40\x11\x02" + one + called + "\x40\x11\x01" + limit: {Regs: 3, States: 1, Instrs: []api.Instr{{Op: 1, N: 500}, {Op: 18, A: 7, B: -1}}, Calls: []api.Call{call("limit", 1, params("high", 128), 2, 0)}},
	} {
		if s, e := machine.Encode(c); s != want || e != api.OK {
			t.Errorf("Encode: %x, %d, not %x", s, e, want)
		}
		if got, e := machine.Decode(want); e != api.OK || !isSame(got, c) {
			t.Errorf("Decode of %x: %v, %d, not %v", want, got, e, c)
		}
	}
	for i, c := range []api.Code{half(), chosen(), sample(), {Instrs: []api.Instr{}, Calls: []api.Call{}}} {
		s, e := machine.Encode(c)
		if s != encoded(c) || e != api.OK {
			t.Errorf("%d: %x, %d", i, s, e)
		}
		if got, e := machine.Decode(s); e != api.OK || !isSame(got, c) {
			t.Errorf("Decode of %x: %v, %d, not %v", s, got, e, c)
		}
	}
}

// A decoder accepts exactly the encodings: whatever is changed of one, it is no encoding, or that of other code.
func TestP27_3Decode(t *testing.T) {
	source := rand.New(rand.NewSource(273))
	s := encoded(sample())
	for end := range s {
		if c, e := machine.Decode(s[:end]); e != api.ErrSyntax || !isSame(c, api.Code{}) {
			t.Fatalf("the first %d bytes: %d", end, e)
		}
	}
	accepted, found := 0, map[api.Errno]int{}
	for range 30000 {
		changed := []byte(s)
		for range 1 + source.Intn(2) {
			at := source.Intn(len(changed))
			switch source.Intn(4) {
			case 0:
				changed = slices.Delete(changed, at, at+1)
			case 1:
				changed = slices.Insert(changed, at, byte(source.Intn(256)))
			default:
				changed[at] = byte(source.Intn(256))
			}
		}
		c, e := machine.Decode(string(changed))
		found[e]++
		if e != api.OK {
			if !isSame(c, api.Code{}) {
				t.Fatalf("Decode of %x: %v, %d", changed, c, e)
			}
			continue
		}
		accepted++
		if again, e := machine.Encode(c); again != string(changed) || e != api.OK {
			t.Fatalf("Decode accepts %x, but the encoding is %x, %d", changed, again, e)
		}
	}
	if accepted < 200 || found[api.ErrSyntax] < 200 || found[api.ErrUnknown] < 20 || found[api.ErrInvalid] < 200 || found[api.ErrState] == 0 {
		t.Errorf("the errors: %v", found)
	}
}

// What is no encoding of code is ErrSyntax, even if the code would have an error.
func TestP27_3DecodeSyntax(t *testing.T) {
	const head, list = "\x40\x11\x06\x21\x00\x21\x00\x21\x00\x21\x00", "\x40\x11\x00"
	const bad = "\x40\x11\x06\x22\x03\x00\x21\x00\x21\x00\x21\x00" // too many registers
	in := func(instr string) string { return head + "\x40\x11\x01" + instr + list }
	block := func(call string) string { return head + list + "\x40\x11\x01" + call }
	for _, s := range []string{
		"", "x", "\x00", "\x40\x11\x00", head, head + list, head + list + list + "\x00", head + list + list + list, bad + list + list + "x", bad + list,
		"\x40\x11\x05\x21\x00\x21\x00\x21\x00\x21\x00" + list, "\x40\x11\x07\x21\x00\x21\x00\x21\x00\x21\x00" + list + list + list, "\x40\x11\x07\x21\x00\x21\x00\x21\x00\x21\x00" + list + list,
		"\x40\x12\x00\x06\x21\x00\x21\x00\x21\x00\x21\x00" + list + list, "\x40\x11\x06\x11\x00\x21\x00\x21\x00\x21\x00" + list + list, "\x40\x11\x06\x22\x00\x00\x21\x00\x21\x00\x21\x00" + list + list, "\x40\x11\x06\x21\x00\x21\x00\x21\x00\x00" + list + list, "\x40\x11\x06\x21\x00\x21\x00\x21\x00\x21\x00\x00" + list,
		in("\x40\x11\x04\x21\x01\x21\x00\x21\x00\x21\x00"), in("\x40\x11\x06\x21\x01\x21\x00\x21\x00\x21\x00\x21\x00\x21\x00"), in("\x40\x11\x05\x21\x01\x21\x00\x21\x00\x21\x00\x11\x00"), in("\x40\x11\x05\x21\x01\x21\x00\x21\x00\x21\x00\x22\x00\x05"), in("\x21\x00"),
		block("\x40\x11\x04\x30\x11\x03not" + list + "\x21\x00" + list), block("\x40\x11\x05\x21\x00" + list + "\x21\x00" + list + list), block("\x40\x11\x05\x30\x11\x03not\x00\x21\x00" + list + list), block("\x40\x11\x05\x30\x11\x03not\x40\x11\x01\x40\x11\x01\x30\x11\x00\x21\x00" + list + list),
		block("\x40\x11\x05\x30\x11\x03not\x40\x11\x01\x40\x11\x02\x21\x00\x21\x00\x21\x00" + list + list), block("\x40\x11\x05\x30\x11\x03not" + list + "\x11\x00" + list + list), block("\x40\x11\x05\x30\x11\x03not" + list + "\x21\x00\x40\x11\x01\x11\x00" + list), block("\x40\x11\x05\x30\x11\x03not" + list + "\x21\x00" + list + "\x21\x00"),
		block("\x40\x11\x05\x30\x11\x04not" + list + "\x21\x00" + list + list), "\x40\x11\x06\x21\x00\x21\x00\x21\x00\x21\x00\x40\x12\xff\xff", "\x40\x13\x01\x00\x00", strings.Repeat("\x40\x11\x01", 1000),
	} {
		if c, e := machine.Decode(s); e != api.ErrSyntax || !isSame(c, api.Code{}) {
			t.Errorf("Decode of %x: %v, %d", s, c, e)
		}
	}
	// These are encodings, but their code is not verified.
	for s, want := range map[string]api.Errno{
		bad + list + list: api.ErrTooMany,
		in("\x40\x11\x05\x21\x00\x21\x00\x21\x00\x21\x00\x21\x00"):                  api.ErrInvalid,
		block("\x40\x11\x05\x30\x11\x03Not" + list + "\x21\x00" + list + list):      api.ErrUnknown,
		block("\x40\x11\x05\x30\x11\x03not" + list + "\x21\x00" + list + list):      api.ErrInvalid,
		encoded(api.Code{Regs: -1}):                                                 api.ErrInvalid,
		encoded(api.Code{Instrs: make([]api.Instr, 4097)}):                          api.ErrTooMany,
		encoded(api.Code{Calls: make([]api.Call, 65)}):                              api.ErrTooMany,
		encoded(api.Code{Regs: math.MinInt, States: math.MinInt, Outputs: 1 << 40}): api.ErrTooMany,
	} {
		if c, e := machine.Decode(s); e != want || !isSame(c, api.Code{}) {
			t.Errorf("Decode of %x: %v, %d, not %d", s, c, e, want)
		}
	}
}

func TestP27_3Text(t *testing.T) {
	c := built([4]int{512, 256, 256, 256}, "in r0 0; const r511 -500; get r2 255; move r1 r0; out 255 r1; put 9 r2; add r3 r2 r1; sub r3 r2 r1; mul r3 r2 r1; div r3 r2 r1; min r3 r2 r1; max r3 r2 r1; less r3 r2 r1; equal r3 r2 r1; not r4 r3; branch r4 18; jump 18; call 1; call 0; branch r4 20",
		call("ondelay", 1, nil, 5, 3), call("mean", 0, nil, 300, 1, 2, 3))
	c.Instrs[1].N = math.MinInt64
	want := []string{
		"0 in r0 0", "1 const r511 -9223372036854775808", "2 get r2 255", "3 move r1 r0", "4 out 255 r1", "5 put 9 r2",
		"6 add r3 r2 r1", "7 sub r3 r2 r1", "8 mul r3 r2 r1", "9 div r3 r2 r1", "10 min r3 r2 r1", "11 max r3 r2 r1", "12 less r3 r2 r1", "13 equal r3 r2 r1",
		"14 not r4 r3", "15 branch r4 18", "16 jump 18", "17 call 1 mean", "18 call 0 ondelay", "19 branch r4 20",
	}
	if list, e := machine.Text(c); e != api.OK || !slices.Equal(list, want) {
		t.Errorf("Text: %q, %d", list, e)
	}
	// Instructions that cannot be reached have texts as well.
	if list, e := machine.Text(built([4]int{1, 0, 0, 0}, "jump 2; not r0 r0")); e != api.OK || !slices.Equal(list, []string{"0 jump 2", "1 not r0 r0"}) {
		t.Errorf("Text: %q, %d", list, e)
	}
	if list, e := machine.Text(api.Code{}); e != api.OK || len(list) != 0 {
		t.Errorf("Text of no instructions: %q, %d", list, e)
	}
	if list, _ := machine.Text(half()); len(list) != 4 || list[2] != "2 mul r2 r0 r1" {
		t.Errorf("Text of the first example: %q", list)
	}
}

// Decoded code shares no memory with what was decoded before.
func TestP27_3Memory(t *testing.T) {
	s := encoded(sample())
	first, _ := machine.Decode(s)
	for i := range first.Instrs {
		first.Instrs[i] = api.Instr{}
	}
	for _, x := range first.Calls {
		x.In[0] = 99
		_ = append(x.In, 98)
		_ = append(x.Out, 97)
	}
	second, _ := machine.Decode(s)
	if !isSame(second, sample()) || !reflect.DeepEqual(first.Calls[2].Out, []int{5}) {
		t.Errorf("decoded code shares memory: %v, %v", first, second)
	}
}
