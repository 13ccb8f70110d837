package machine

import (
	"plenum/api"
	"plenum/codec"
	"plenum/lists"
)

// How many values the lists have that encode code, an instruction, a call, and a parameter.
const (
	codeFields  = 6
	instrFields = 5
	callFields  = 5
	paramFields = 2
)

// encode returns the encoding of verified code, in which nothing is too long for a list or a text.
func encode(c api.Code) string {
	w := &codec.Writer{}
	number := func(n int) { w.Signed(int64(n)) }
	w.List(codeFields)
	number(c.Regs)
	number(c.Inputs)
	number(c.Outputs)
	number(c.States)
	lists.Write(w, c.Instrs, func(in api.Instr) {
		w.List(instrFields)
		number(in.Op)
		number(in.A)
		number(in.B)
		number(in.C)
		w.Signed(in.N)
	})
	lists.Write(w, c.Calls, func(x api.Call) {
		w.List(callFields)
		w.Text(x.Block)
		lists.Write(w, x.Params, func(p api.Param) {
			w.List(paramFields)
			w.Text(p.Name)
			w.Signed(p.Value)
		})
		number(x.State)
		lists.Write(w, x.In, number)
		lists.Write(w, x.Out, number)
	})
	return w.Data()
}

// decode returns the code of an encoding, whether or not it is verified.
func decode(s string) (api.Code, api.Errno) {
	r := lists.NewReader(s)
	r.Fields(codeFields)
	c := api.Code{Regs: r.Int(), Inputs: r.Int(), Outputs: r.Int(), States: r.Int()}
	c.Instrs = lists.Read(r, func() api.Instr {
		r.Fields(instrFields)
		return api.Instr{Op: r.Int(), A: r.Int(), B: r.Int(), C: r.Int(), N: r.Signed()}
	})
	c.Calls = lists.Read(r, func() api.Call {
		r.Fields(callFields)
		x := api.Call{Block: r.Text()}
		x.Params = lists.Read(r, func() api.Param {
			r.Fields(paramFields)
			return api.Param{Name: r.Text(), Value: r.Signed()}
		})
		x.State, x.In, x.Out = r.Int(), lists.Read(r, r.Int), lists.Read(r, r.Int)
		return x
	})
	return c, r.End()
}
