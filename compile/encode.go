package compile

import (
	"plenum/api"
	"plenum/codec"
	"plenum/lists"
	"plenum/machine"
)

// How many values the lists have that encode a unit and a port.
const (
	unitFields = 6
	portFields = 3
)

// encode returns the encoding of a valid unit, or the error of a code that is too long for a text.
func encode(u Unit) (string, api.Errno) {
	code, _ := machine.Encode(u.Code)
	w := &codec.Writer{}
	w.List(unitFields)
	w.Text(u.Name)
	w.Signed(int64(u.Period))
	if e := w.Text(code); e != api.OK {
		return "", e
	}
	lists.Write(w, u.Initial, w.Signed)
	port := func(p Port) {
		w.List(portFields)
		w.Text(p.Point)
		w.Signed(int64(p.Kind))
		w.Signed(int64(p.Level))
	}
	lists.Write(w, u.Inputs, port)
	lists.Write(w, u.Outputs, port)
	return w.Data(), api.OK
}

// decode returns the unit of an encoding, whether or not it is valid.
func decode(s string) (Unit, api.Errno) {
	r := lists.NewReader(s)
	r.Fields(unitFields)
	u := Unit{Name: r.Text(), Period: r.Int()}
	code := r.Text()
	u.Initial = lists.Read(r, r.Signed)
	port := func() Port {
		r.Fields(portFields)
		return Port{Point: r.Text(), Kind: r.Int(), Level: r.Int()}
	}
	u.Inputs, u.Outputs = lists.Read(r, port), lists.Read(r, port)
	if e := r.End(); e != api.OK {
		return Unit{}, e
	}
	c, e := machine.Decode(code)
	if e != api.OK {
		return Unit{}, e
	}
	u.Code = c
	return u, api.OK
}
