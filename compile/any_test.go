package compile_test

import (
	"math"
	"math/rand"
	"reflect"
	"slices"
	"testing"

	"plenum/api"
	"plenum/block"
	"plenum/compile"
	"plenum/order"
	"plenum/typing"
)

// spoiled returns a program with a change that may make it wrong.
func spoiled(source *rand.Rand, p api.Program) api.Program {
	p.Nodes, p.Drives = slices.Clone(p.Nodes), slices.Clone(p.Drives)
	number := pick(source, 0, 1, -1, 17, math.MaxInt, math.MinInt)
	name := pick(source, "", "n0", "N", "room", "fan", "none")
	value := api.Value{Kind: source.Intn(5), N: int64(number)}
	link := api.Link{Node: pick(source, "", name), Point: pick(source, "", name), Const: pick(source, api.Value{}, value), Delayed: source.Intn(2) == 0, Initial: pick(source, api.Value{}, value)}
	switch source.Intn(7) {
	case 0:
		p.Name = name
	case 1:
		p.Period = number
	case 2:
		p.Drives = append(p.Drives, api.Drive{Point: name, Level: number, From: link})
	case 3:
		p.Nodes = append(p.Nodes, api.Node{Name: name, Block: pick(source, block.Names()...), Inputs: []api.Link{link}})
	}
	if len(p.Nodes) == 0 {
		return p
	}
	n := &p.Nodes[source.Intn(len(p.Nodes))]
	switch source.Intn(6) {
	case 0:
		n.Block = pick(source, append(block.Names(), "none")...)
	case 1:
		n.Inputs = append(slices.Clone(n.Inputs), link)
	case 2:
		n.Params = append(slices.Clone(n.Params), api.Param{Name: pick(source, "time", "high", ""), Value: int64(number)})
	case 3:
		n.Name = name
	}
	return p
}

// Whatever the program is, Compile has the first error and nothing else, or a valid unit.
func TestP28_1Any(t *testing.T) {
	source := rand.New(rand.NewSource(288))
	found := map[api.Errno]int{}
	for range 40 {
		p := randomProgram(source, source.Intn(6))
		for range 50 {
			q := spoiled(source, p)
			_, want := typing.Infer(q, points())
			if want == api.OK {
				_, want = order.Of(q)
			}
			u, e := compile.Compile(q, points())
			if e != want || e != api.OK && !reflect.DeepEqual(u, compile.Unit{}) || e == api.OK && compile.Check(u) != api.OK {
				t.Fatalf("Compile of %v: %v, %d, not %d, Check: %d", q, u, e, want, compile.Check(u))
			}
			found[e]++
		}
	}
	if found[api.OK] < 100 || found[api.ErrName] < 100 || found[api.ErrUnknown] < 100 || found[api.ErrInvalid] < 100 || found[api.ErrRange] < 20 {
		t.Errorf("the errors: %v", found)
	}
}

// Whatever the unit is, the functions have the error of Check, and nothing else then.
func TestP28_2Any(t *testing.T) {
	source := rand.New(rand.NewSource(289))
	found := map[api.Errno]int{}
	for range 4000 {
		u := sample()
		for range 1 + source.Intn(2) {
			number := pick(source, 0, 1, 2, 3, 4, -1, 600, math.MaxInt, math.MinInt)
			ports := pick(source, u.Inputs, u.Outputs)
			in := &u.Code.Instrs[source.Intn(len(u.Code.Instrs))]
			switch source.Intn(12) {
			case 0:
				u.Name = pick(source, "", "q", "Q")
			case 1:
				u.Period = number
			case 2:
				u.Initial = append(u.Initial[:source.Intn(2)], int64(number))
			case 3:
				ports[source.Intn(3)].Point = pick(source, "", "a", "z", "Z")
			case 4:
				ports[source.Intn(3)].Kind = number
			case 5:
				ports[source.Intn(3)].Level = number
			case 6:
				u.Inputs, u.Outputs = pick(source, u.Inputs, u.Inputs[:2], nil), pick(source, u.Outputs, u.Outputs[:1])
			case 7:
				u.Code.Regs = number
			case 8:
				u.Code.States, u.Code.Inputs = number, pick(source, 3, number)
			case 9:
				in.Op, in.A, in.B, in.C = pick(source, in.Op, number), number, source.Intn(4), number
			case 10:
				in.N = int64(number)
			case 11:
				u.Code.Calls[0].Block, u.Code.Calls[0].In = pick(source, block.Names()...), []int{pick(source, 2, number)}
			}
			if len(u.Inputs) != 3 || len(u.Outputs) != 3 {
				break
			}
		}
		check(t, u, compile.Check(u), "a random unit")
		found[compile.Check(u)]++
	}
	if found[api.OK] < 300 || len(found) < 8 {
		t.Errorf("the errors: %v", found)
	}
}
