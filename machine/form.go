package machine

import (
	"strconv"

	"plenum/api"
)

// form is how an operation is written: its word, and its operands in the order of the text. Of these, a is the register that it writes, b and c are those that it reads, and n is N.
type form struct{ word, operands string }

// forms has the forms of the operations at their numbers.
var forms = [...]form{
	OpConst:  {"const", "an"},
	OpMove:   {"move", "ab"},
	OpIn:     {"in", "an"},
	OpOut:    {"out", "nb"},
	OpGet:    {"get", "an"},
	OpPut:    {"put", "nb"},
	OpAdd:    {"add", "abc"},
	OpSub:    {"sub", "abc"},
	OpMul:    {"mul", "abc"},
	OpDiv:    {"div", "abc"},
	OpMin:    {"min", "abc"},
	OpMax:    {"max", "abc"},
	OpLess:   {"less", "abc"},
	OpEqual:  {"equal", "abc"},
	OpNot:    {"not", "ab"},
	OpBranch: {"branch", "bn"},
	OpJump:   {"jump", "n"},
	OpCall:   {"call", "n"},
}

// isOperation reports whether there is an operation with a number.
func isOperation(op int) bool { return 1 <= op && op < len(forms) }

// operands returns the registers that an instruction reads and those that it writes by its own fields, without those of a call.
func operands(in api.Instr) (reads, writes []int) {
	for _, operand := range forms[in.Op].operands {
		switch operand {
		case 'a':
			writes = append(writes, in.A)
		case 'b':
			reads = append(reads, in.B)
		case 'c':
			reads = append(reads, in.C)
		}
	}
	return reads, writes
}

// text returns the text of an instruction.
func text(c api.Code, at int) string {
	in := c.Instrs[at]
	register := func(n int) string { return " r" + strconv.Itoa(n) }
	line := strconv.Itoa(at) + " " + forms[in.Op].word
	for _, operand := range forms[in.Op].operands {
		switch operand {
		case 'a':
			line += register(in.A)
		case 'b':
			line += register(in.B)
		case 'c':
			line += register(in.C)
		default:
			line += " " + strconv.FormatInt(in.N, 10)
		}
	}
	if in.Op == OpCall {
		line += " " + c.Calls[in.N].Block
	}
	return line
}
