package machine_test

import (
	"maps"
	"math"
	"math/rand"
	"slices"
	"strconv"
	"strings"
	"testing"

	"plenum/api"
	"plenum/block"
	"plenum/fixed"
	"plenum/machine"
)

// randomCode returns code without an error but ErrState. Its registers are few, so that what is read is often written.
func randomCode(source *rand.Rand, count int) api.Code {
	c := api.Code{Regs: 1 + source.Intn(4), Inputs: 1 + source.Intn(2), Outputs: 1 + source.Intn(3), States: 8}
	register := func() int { return source.Intn(c.Regs) }
	state := 0
	for _, name := range []string{"not", "edge", "add", "ondelay", "limit"}[:source.Intn(6)] {
		d, _ := block.Find(name)
		x := call(name, state, randomParams(source, name), register())
		for range d.Inputs {
			x.In = append(x.In, register())
		}
		state += d.State
		c.Calls = append(c.Calls, x)
	}
	for at := range count {
		in := api.Instr{Op: 1 + source.Intn(18), A: register(), B: register(), C: register()}
		if source.Intn(3) == 0 {
			in.Op = []int{machine.OpIn, machine.OpConst, machine.OpBranch, machine.OpJump}[source.Intn(4)]
		}
		if in.Op == machine.OpCall && len(c.Calls) == 0 {
			in.Op = machine.OpConst
		}
		switch in.Op {
		case machine.OpConst:
			in.N = randomNumber(source)
		case machine.OpIn:
			in.N = int64(source.Intn(c.Inputs))
		case machine.OpOut:
			in.N = int64(source.Intn(c.Outputs))
		case machine.OpGet:
			in.N = int64(source.Intn(c.States))
		case machine.OpPut:
			in.N = int64(state + source.Intn(c.States-state))
		case machine.OpBranch, machine.OpJump:
			in.N = int64(min(at+1+source.Intn(3), count))
		case machine.OpCall:
			in.N = int64(source.Intn(len(c.Calls)))
		default:
			in.N = randomNumber(source)
		}
		c.Instrs = append(c.Instrs, in)
	}
	return c
}

// touched returns the registers that an instruction reads and those that it writes.
func touched(c api.Code, in api.Instr) (reads, writes []int) {
	if in.Op == machine.OpCall {
		return c.Calls[in.N].In, c.Calls[in.N].Out
	}
	for _, l := range layouts() {
		for _, operand := range l.operands {
			switch {
			case l.op != in.Op:
			case operand == 'A':
				writes = append(writes, in.A)
			case operand == 'B':
				reads = append(reads, in.B)
			case operand == 'C':
				reads = append(reads, in.C)
			}
		}
	}
	return reads, writes
}

// survey is what is found by following all ways through code, one by one.
type survey struct {
	c       api.Code
	reached map[int]bool
	longest int
	isRight bool
}

// follow follows all ways from an instruction on, behind so many others, of which some registers are written.
func (s *survey) follow(at, steps int, written map[int]bool) {
	if at == len(s.c.Instrs) {
		s.longest = max(s.longest, steps)
		return
	}
	s.reached[at] = true
	in := s.c.Instrs[at]
	reads, writes := touched(s.c, in)
	for _, r := range reads {
		s.isRight = s.isRight && written[r]
	}
	after := maps.Clone(written)
	for _, r := range writes {
		after[r] = true
	}
	if in.Op != machine.OpJump {
		s.follow(at+1, steps+1, after)
	}
	if in.Op == machine.OpJump || in.Op == machine.OpBranch {
		s.follow(int(in.N), steps+1, after)
	}
}

// surveyed returns the survey of code.
func surveyed(c api.Code) survey {
	s := survey{c: c, reached: map[int]bool{}, isRight: true}
	s.follow(0, 0, map[int]bool{})
	return s
}

// Verify, Reach and Steps are as following all ways says.
func TestP27_1Definitions(t *testing.T) {
	source := rand.New(rand.NewSource(271))
	right, wrong := 0, 0
	for range 20000 {
		c := randomCode(source, source.Intn(9))
		s := surveyed(c)
		e := machine.Verify(c)
		if !s.isRight {
			wrong++
			if e != api.ErrState {
				t.Fatalf("Verify of %v: %d", c, e)
			}
			continue
		}
		right++
		list, f := machine.Reach(c)
		n, g := machine.Steps(c)
		if e != api.OK || f != api.OK || g != api.OK || !slices.Equal(list, slices.Sorted(maps.Keys(s.reached))) || n != s.longest {
			t.Fatalf("%v: %d, %v, %d, %d, %d, not %v, %d", c, e, list, f, n, g, s.reached, s.longest)
		}
	}
	if right < 3000 || wrong < 3000 {
		t.Errorf("%d are right, %d wrong", right, wrong)
	}
}

// model is a run by the definitions.
type model struct {
	registers, outputs, state map[int64]int64
	carried                   []int // the instructions that were carried out
	e                         api.Errno
}

// execute carries out an instruction and returns the next one.
func (m *model) execute(c api.Code, at int, inputs []int64, dt int) int {
	in := c.Instrs[at]
	b, x := m.registers[int64(in.B)], m.registers[int64(in.C)]
	truth := map[bool]int64{true: 1}
	results := map[int]int64{
		machine.OpConst: in.N, machine.OpMove: b, machine.OpGet: m.state[in.N],
		machine.OpAdd: fixed.Add(b, x), machine.OpSub: fixed.Sub(b, x), machine.OpMul: fixed.Mul(b, x), machine.OpDiv: fixed.Div(b, x),
		machine.OpMin: slices.Min([]int64{b, x}), machine.OpMax: slices.Max([]int64{b, x}), machine.OpLess: truth[b < x], machine.OpEqual: truth[b == x], machine.OpNot: truth[b == 0],
	}
	if in.Op == machine.OpIn {
		results[in.Op] = inputs[in.N]
	}
	result, writes := results[in.Op]
	switch {
	case writes:
		m.registers[int64(in.A)] = result
	case in.Op == machine.OpOut:
		m.outputs[in.N] = b
	case in.Op == machine.OpPut:
		m.state[in.N] = b
	case in.Op == machine.OpJump, in.Op == machine.OpBranch && b == 0:
		return int(in.N)
	case in.Op == machine.OpCall:
		m.call(c.Calls[in.N], dt)
	}
	return at + 1
}

// call carries out a call.
func (m *model) call(x api.Call, dt int) {
	d, _ := block.Find(x.Block)
	ports, _ := block.Inputs(x.Block, len(x.In))
	values, _ := block.Params(x.Block, x.Params)
	var in []api.Value
	for i, r := range x.In {
		in = append(in, valueFor(ports[i].Type, m.registers[int64(r)]))
	}
	state := make([]int64, d.State)
	for i := range state {
		state[i] = m.state[int64(x.State+i)]
	}
	next, output, e := evaluate(x.Block, values, state, in, dt)
	m.e = e
	for i, n := range next {
		m.state[int64(x.State+i)] = n
	}
	m.registers[int64(x.Out[0])] = output.N
}

// listed returns the numbers of a map from 0 on.
func listed(m map[int64]int64, count int) []int64 {
	list := make([]int64, count)
	for i := range list {
		list[i] = m[int64(i)]
	}
	return list
}

// modelled returns the run of code by the definitions.
func modelled(c api.Code, state, inputs []int64, dt int) *model {
	m := &model{registers: map[int64]int64{}, outputs: map[int64]int64{}, state: map[int64]int64{}}
	for i, n := range state {
		m.state[int64(i)] = n
	}
	for at := 0; at < len(c.Instrs) && m.e == api.OK; {
		m.carried = append(m.carried, at)
		at = m.execute(c, at, inputs, dt)
	}
	return m
}

// verifiedCode returns random code that is verified.
func verifiedCode(source *rand.Rand) api.Code {
	for {
		if c := randomCode(source, source.Intn(14)); machine.Verify(c) == api.OK {
			return c
		}
	}
}

// randomNumbers returns so many numbers.
func randomNumbers(source *rand.Rand, count int) []int64 {
	var list []int64
	for range count {
		list = append(list, randomNumber(source))
	}
	return list
}

// Run is as the definitions say. What it carries out can be reached, and is at most as much as Steps says.
func TestP27_2Definitions(t *testing.T) {
	source := rand.New(rand.NewSource(274))
	reached, errors := 0, 0
	for range 6000 {
		c := verifiedCode(source)
		state, inputs, dt := make([]int64, c.States), randomNumbers(source, c.Inputs), 1+source.Intn(9)
		for i := range state {
			state[i] = source.Int63n(3)
		}
		m := modelled(c, state, inputs, dt)
		outputs, next, e := machine.Run(c, state, inputs, dt)
		if e != m.e {
			t.Fatalf("Run of %v with %v, %v: %d, not %d", c, state, inputs, e, m.e)
		}
		list, _ := machine.Reach(c)
		steps, _ := machine.Steps(c)
		if len(m.carried) > steps || slices.ContainsFunc(m.carried, func(at int) bool { return !slices.Contains(list, at) }) {
			t.Fatalf("%v: %v was carried out, of %v in at most %d steps", c, m.carried, list, steps)
		}
		if len(m.carried) == steps {
			reached++
		}
		if e != api.OK {
			errors++
			continue
		}
		if !slices.Equal(outputs, listed(m.outputs, c.Outputs)) || !slices.Equal(next, listed(m.state, c.States)) {
			t.Fatalf("Run of %v with %v, %v: %v, %v, not %v, %v", c, state, inputs, outputs, next, m.outputs, m.state)
		}
		again, after, _ := machine.Run(copied(c), slices.Clone(state), slices.Clone(inputs), dt)
		if !slices.Equal(again, outputs) || !slices.Equal(after, next) {
			t.Fatalf("Run of %v again: %v, %v, not %v, %v", c, again, after, outputs, next)
		}
	}
	if reached < 500 || errors < 5 {
		t.Errorf("%d runs have as many steps as possible, %d an error", reached, errors)
	}
}

// Instructions that cannot be reached do not matter.
func TestP27_4Unreached(t *testing.T) {
	source := rand.New(rand.NewSource(275))
	replaced := 0
	for range 4000 {
		c := verifiedCode(source)
		d := copied(c)
		list, _ := machine.Reach(c)
		for at := range d.Instrs {
			if slices.Contains(list, at) {
				continue
			}
			other := []string{"out 0 r0", "not r0 r0", "put 7 r0", "const r0 5", "jump " + strconv.Itoa(len(d.Instrs)), "branch r0 " + strconv.Itoa(at+1)}
			d.Instrs[at] = instr(other[source.Intn(len(other))])
			replaced++
		}
		state, inputs := make([]int64, c.States), randomNumbers(source, c.Inputs)
		first, next, e := machine.Run(c, state, inputs, 3)
		second, after, f := machine.Run(d, state, inputs, 3)
		steps, _ := machine.Steps(c)
		others, _ := machine.Steps(d)
		again, g := machine.Reach(d)
		if e != f || g != api.OK || !slices.Equal(first, second) || !slices.Equal(next, after) || steps != others || !slices.Equal(list, again) {
			t.Fatalf("%v: %v, %v, %d in %d; %v: %v, %v, %d in %d", c, first, next, e, steps, d, second, after, f, others)
		}
	}
	if replaced < 1000 {
		t.Errorf("%d instructions cannot be reached", replaced)
	}
}

// Decode of an encoding gives the code, and the text of code says what it is.
func TestP27_4Decode(t *testing.T) {
	source := rand.New(rand.NewSource(276))
	for range 3000 {
		c := verifiedCode(source)
		s, e := machine.Encode(c)
		d, f := machine.Decode(s)
		if e != api.OK || f != api.OK || s != encoded(c) || !isSame(c, d) {
			t.Fatalf("%v: %x, %d, %v, %d", c, s, e, d, f)
		}
		list, e := machine.Text(c)
		if e != api.OK || len(list) != len(c.Instrs) {
			t.Fatalf("Text of %v: %q, %d", c, list, e)
		}
		for at, line := range list {
			in := c.Instrs[at]
			number, rest, _ := strings.Cut(line, " ")
			got := instr(rest)
			reads, writes := touched(c, in)
			others, more := touched(c, got)
			if number != strconv.Itoa(at) || got.Op != in.Op || !slices.Equal(reads, others) || !slices.Equal(writes, more) {
				t.Fatalf("Text of %v: %q", in, line)
			}
		}
	}
}

// No code makes a function panic, and with an error there are no results.
func TestP27Any(t *testing.T) {
	source := rand.New(rand.NewSource(277))
	size := func() int {
		return []int{-1, 0, 1, 2, 5, 6, 300, 600, math.MaxInt, math.MinInt}[source.Intn(10)]
	}
	for range 3000 {
		c := sample()
		for range 1 + source.Intn(3) {
			in, x := &c.Instrs[source.Intn(len(c.Instrs))], &c.Calls[source.Intn(len(c.Calls))]
			switch source.Intn(12) {
			case 0:
				c.Regs = size()
			case 1:
				c.Inputs, c.Outputs = size(), size()
			case 2:
				c.States = size()
			case 3:
				in.Op = size() + source.Intn(19)
			case 4:
				in.A, in.B, in.C = size(), size(), size()
			case 5:
				in.N = randomNumber(source)
			case 6:
				x.Block = block.Names()[source.Intn(33)]
			case 7:
				x.State = size()
			case 8:
				x.In = append(x.In, size())
			case 9:
				x.Out = append(x.Out[:source.Intn(len(x.Out)+1)], size())
			case 10:
				x.Params = append(x.Params, api.Param{Name: []string{"time", "high", "", "low"}[source.Intn(4)], Value: randomNumber(source)})
			case 11:
				*in = api.Instr{Op: 1 + source.Intn(18), A: source.Intn(6), B: source.Intn(6), C: source.Intn(6), N: source.Int63n(14)}
			}
		}
		want := machine.Verify(c)
		for name, f := range functions() {
			if e, isWrong := f(c); e != want || isWrong {
				t.Fatalf("%s of %v: %d, not %d, or with wrong results: %v", name, c, e, want, isWrong)
			}
		}
		state, inputs := randomNumbers(source, source.Intn(7)), randomNumbers(source, source.Intn(4))
		outputs, next, e := machine.Run(c, state, inputs, size())
		if want != api.OK && e != want || e != api.OK && len(outputs)+len(next) > 0 {
			t.Fatalf("Run of %v: %v, %v, %d, not %d", c, outputs, next, e, want)
		}
	}
}
