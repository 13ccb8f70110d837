package compile

import (
	"slices"

	"plenum/api"
	"plenum/block"
	"plenum/machine"
	"plenum/program"
)

// builder makes the code of a program. Each node has a register, for its output; the registers behind these get what other links give, just before they are read.
type builder struct {
	code      api.Code
	initial   []int64        // of the states
	inputs    map[string]int // of the machine, by their points
	registers map[string]int // of the nodes
	kept      []keep
}

// keep is a delayed link with the state that has its value.
type keep struct {
	link  api.Link
	state int
}

// newBuilder returns a builder for a program without instructions.
func newBuilder(p api.Program) *builder {
	reads := program.Reads(p)
	b := &builder{inputs: map[string]int{}, registers: map[string]int{}}
	for i, name := range reads {
		b.inputs[name] = i
	}
	for i, n := range p.Nodes {
		b.registers[n.Name] = i
	}
	b.code.Regs, b.code.Inputs, b.code.Outputs = len(p.Nodes)+api.MaxInputs, len(reads), len(p.Drives)
	return b
}

// program appends the instructions of a program whose nodes are evaluated in an order.
func (b *builder) program(p api.Program, order []int) {
	for _, i := range order {
		b.node(p.Nodes[i])
	}
	for i, d := range p.Drives {
		b.add(api.Instr{Op: machine.OpOut, B: b.load(d.From, 0), N: int64(i)})
	}
	// Only behind all reads of the states the links may be delayed by another scan.
	for _, k := range b.kept {
		b.add(api.Instr{Op: machine.OpPut, B: b.loadPresent(k.link, 0), N: int64(k.state)})
	}
	b.code.States = len(b.initial)
}

// add appends an instruction.
func (b *builder) add(in api.Instr) { b.code.Instrs = append(b.code.Instrs, in) }

// reserve returns the first one of new states.
func (b *builder) reserve(initial ...int64) int {
	first := len(b.initial)
	b.initial = append(b.initial, initial...)
	return first
}

// load appends what gets the value of a link, and returns the register that has it. Links other than those from nodes get it into one of the last registers, the one with a place.
func (b *builder) load(l api.Link, place int) int {
	if !l.Delayed {
		return b.loadPresent(l, place)
	}
	k := keep{l, b.reserve(l.Initial.N)}
	b.kept = append(b.kept, k)
	return b.loadInto(place, machine.OpGet, int64(k.state))
}

// loadPresent is load for the value that a link has without a delay.
func (b *builder) loadPresent(l api.Link, place int) int {
	switch {
	case l.Node != "":
		return b.registers[l.Node]
	case l.Point != "":
		return b.loadInto(place, machine.OpIn, int64(b.inputs[l.Point]))
	}
	return b.loadInto(place, machine.OpConst, l.Const.N)
}

// loadInto appends an instruction that gets a number into the register with a place, and returns this register.
func (b *builder) loadInto(place, op int, n int64) int {
	register := len(b.registers) + place
	b.add(api.Instr{Op: op, A: register, N: n})
	return register
}

// node appends the instructions of a node.
func (b *builder) node(n api.Node) {
	var in []int
	for place, l := range n.Inputs {
		in = append(in, b.load(l, place))
	}
	to := b.registers[n.Name]
	if write, known := b.writers()[n.Block]; known {
		write(to, in)
		return
	}
	b.call(n, to, in)
}

// writers returns what appends the instructions of the blocks for which the machine has operations, for the registers of the output and of the inputs.
func (b *builder) writers() map[string]func(to int, in []int) {
	chain := func(op int) func(to int, in []int) {
		return func(to int, in []int) { b.chain(op, to, in) }
	}
	return map[string]func(to int, in []int){
		"above": b.above,
		"add":   chain(machine.OpAdd),
		"and":   chain(machine.OpMin),
		"below": chain(machine.OpLess),
		"div":   chain(machine.OpDiv),
		"max":   chain(machine.OpMax),
		"min":   chain(machine.OpMin),
		"mul":   chain(machine.OpMul),
		"not":   b.not,
		"or":    chain(machine.OpMax),
		"pick":  b.pick,
		"sub":   chain(machine.OpSub),
	}
}

// chain appends an operation on the first two inputs, and on each result and the next input.
func (b *builder) chain(op, to int, in []int) {
	left := in[0]
	for _, right := range in[1:] {
		b.add(api.Instr{Op: op, A: to, B: left, C: right})
		left = to
	}
}

// above appends the instruction that tells whether the second input is less than the first one.
func (b *builder) above(to int, in []int) {
	b.add(api.Instr{Op: machine.OpLess, A: to, B: in[1], C: in[0]})
}

// not appends the instruction for the contrary of an input.
func (b *builder) not(to int, in []int) { b.add(api.Instr{Op: machine.OpNot, A: to, B: in[0]}) }

// pick appends two moves, of which the first input chooses one.
func (b *builder) pick(to int, in []int) {
	at := int64(len(b.code.Instrs))
	second, end := at+3, at+4
	b.add(api.Instr{Op: machine.OpBranch, B: in[0], N: second})
	b.add(api.Instr{Op: machine.OpMove, A: to, B: in[1]})
	b.add(api.Instr{Op: machine.OpJump, N: end})
	b.add(api.Instr{Op: machine.OpMove, A: to, B: in[2]})
}

// call appends a call of a node's block.
func (b *builder) call(n api.Node, to int, in []int) {
	d, _ := block.Find(n.Block)
	state := b.reserve(make([]int64, d.State)...)
	x := api.Call{Block: n.Block, Params: slices.Clone(n.Params), State: state, In: in, Out: []int{to}}
	b.add(api.Instr{Op: machine.OpCall, N: int64(len(b.code.Calls))})
	b.code.Calls = append(b.code.Calls, x)
}
