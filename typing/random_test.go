package typing_test

import (
	"math/rand"
	"slices"
	"strconv"
	"strings"
	"testing"

	"plenum/api"
	"plenum/block"
	"plenum/program"
	"plenum/typing"
	"plenum/units"
	"plenum/wire"
)

// world has the texts of the types of points and of nodes, by their names. It finds types and clashes by the definitions.
type world struct {
	p             api.Program
	points, nodes map[string]string
}

// newWorld returns the world of a program without types of its nodes.
func newWorld(p api.Program) world {
	w := world{p, map[string]string{}, map[string]string{}}
	for _, x := range points() {
		t, _ := wire.Of(x)
		w.points[x.Name], _ = wire.Text(t)
	}
	return w
}

// isConstant reports whether a link comes from a constant.
func isConstant(l api.Link) bool { return l.Node+l.Point == "" }

// natural returns the text of the natural type of a constant.
func natural(v api.Value) string { return []string{"", "analog one", "binary", "multi 16"}[v.Kind] }

// of returns the text of the type of a link, or nothing.
func (w world) of(l api.Link) string {
	if isConstant(l) {
		return natural(l.Const)
	}
	return w.points[l.Point] + w.nodes[l.Node]
}

// inputs returns the links of a node whose port has a type, without the constants or only these.
func inputs(n api.Node, text string, constants bool) []api.Link {
	ports, _ := block.Inputs(n.Block, len(n.Inputs))
	var list []api.Link
	for i, l := range n.Inputs {
		if ports[i].Type == text && isConstant(l) == constants {
			list = append(list, l)
		}
	}
	return list
}

// letter returns the text of the type of a letter, or nothing if it cannot be determined.
func (w world) letter(n api.Node, letter string) string {
	links := inputs(n, letter, false)
	if len(links) == 0 {
		return natural(inputs(n, letter, true)[0].Const)
	}
	for _, l := range links {
		if w.of(l) != "" {
			return w.of(l)
		}
	}
	return ""
}

// canonical returns the text of an analog type with a unit.
func canonical(unit string) string {
	u, _ := units.Parse(unit)
	text, _ := units.Print(u)
	return "analog " + text
}

// combine returns the text of the product or the quotient of the units of two types, and whether there is one.
func combine(sign, a, b string) (string, bool) {
	first, isFirst := strings.CutPrefix(a, "analog ")
	second, isSecond := strings.CutPrefix(b, "analog ")
	if !isFirst || !isSecond {
		return "analog one", false
	}
	u, _ := units.Parse(first)
	v, _ := units.Parse(second)
	result, e := units.Mul(u, v)
	if sign == "/" {
		result, e = units.Div(u, v)
	}
	if e != api.OK {
		return "analog one", false
	}
	text, _ := units.Print(result)
	return "analog " + text, true
}

// output returns the text of the type that the output of a node should have, or nothing if it cannot be determined, and whether there is such a unit.
func (w world) output(n api.Node) (string, bool) {
	d, _ := block.Find(n.Block)
	switch text := d.Outputs[0].Type; text {
	case "U", "V", "T":
		return w.letter(n, text), true
	case "U*V", "U/V":
		a, b := w.letter(n, "U"), w.letter(n, "V")
		if a == "" || b == "" {
			return "", true
		}
		return combine(text[1:2], a, b)
	case "multi":
		states := int64(2)
		for _, param := range n.Params {
			if param.Name == "stages" || param.Name == "count" {
				states = param.Value + 1
			}
		}
		return "multi " + strconv.FormatInt(states, 10), true
	case "analog":
		return "analog one", true
	case "binary":
		return text, true
	default:
		return canonical(strings.TrimPrefix(text, "analog ")), true
	}
}

// assumed returns the text of the type of a node that nothing determines.
func assumed(n api.Node) string {
	d, _ := block.Find(n.Block)
	ports, _ := block.Inputs(n.Block, len(n.Inputs))
	for i, l := range n.Inputs {
		if strings.Contains(d.Outputs[0].Type, ports[i].Type) && l.Delayed && !isConstant(l) {
			return natural(l.Initial)
		}
	}
	return "analog one"
}

// infer gives types to all nodes.
func (w world) infer() {
search:
	for len(w.nodes) < len(w.p.Nodes) {
		for _, n := range w.p.Nodes {
			if text, _ := w.output(n); w.nodes[n.Name] == "" && text != "" {
				w.nodes[n.Name] = text
				continue search
			}
		}
		for _, n := range w.p.Nodes {
			if w.nodes[n.Name] == "" {
				w.nodes[n.Name] = assumed(n)
				continue search
			}
		}
	}
}

// fits reports whether a value is one of a type with a text.
func fits(v api.Value, text string) bool {
	kind, rest, _ := strings.Cut(text, " ")
	if kind == "multi" && rest != "" {
		states, _ := strconv.ParseInt(rest, 10, 64)
		return v.Kind == api.Multi && v.N <= states
	}
	return kind == map[int]string{api.Analog: "analog", api.Binary: "binary", api.Multi: "multi"}[v.Kind]
}

// compare returns the end of the text of a clash of a link with a wanted type, or nothing.
func (w world) compare(l api.Link, want string) string {
	have := w.of(l)
	isRight := have == want || want == "multi" && strings.HasPrefix(have, "multi ")
	if isConstant(l) {
		isRight = fits(l.Const, want)
	}
	switch {
	case l.Delayed && !fits(l.Initial, have):
		return ": " + natural(l.Initial) + " instead of " + have
	case !isRight:
		return ": " + have + " instead of " + want
	}
	return ""
}

// wanted returns the text of the type that a port of a node wants.
func (w world) wanted(n api.Node, port string) string {
	switch port {
	case "T":
		return w.letter(n, port)
	case "U", "V":
		if text := w.letter(n, port); strings.HasPrefix(text, "analog ") {
			return text
		}
		return "analog one"
	case "binary", "multi":
		return port
	}
	return canonical(strings.TrimPrefix(port, "analog "))
}

// clash returns the text of the first clash, or nothing.
func (w world) clash() string {
	for _, n := range w.p.Nodes {
		ports, _ := block.Inputs(n.Block, len(n.Inputs))
		for i, l := range n.Inputs {
			if text := w.compare(l, w.wanted(n, ports[i].Type)); text != "" {
				return "node " + n.Name + " input " + strconv.Itoa(i+1) + text
			}
		}
		want, exists := w.output(n)
		if have := w.nodes[n.Name]; have != want || !exists {
			if have == want {
				want = have
			}
			return "node " + n.Name + " output: " + have + " instead of " + want
		}
	}
	for i, d := range w.p.Drives {
		if text := w.compare(d.From, w.points[d.Point]); text != "" {
			return "drive " + strconv.Itoa(i+1) + text
		}
	}
	return ""
}

// pick returns one of some things.
func pick[T any](source *rand.Rand, list ...T) T { return list[source.Intn(len(list))] }

// linkWords returns words for links that suit a port, perhaps, without those from nodes.
func linkWords(port string) []string {
	switch {
	case port == "binary":
		return []string{"button", "fan", "on", "off"}
	case port == "multi":
		return []string{"mode", "state", "m1", "m2", "m9"}
	case port == "T":
		return []string{"mode", "state", "m1", "m3", "button", "fan", "on", "room", "#5", "flow"}
	}
	return []string{"room", "supply", "room", "supply", "room", "flow", "humid", "valve", "ratio", "kelvin", "power", "far", "#5", "#-7"}
}

// suitable returns the names of nodes whose outputs may suit a port, with @ before them.
func suitable(nodes []api.Node, port string) []string {
	var list []string
	for _, n := range nodes {
		d, _ := block.Find(n.Block)
		if text := d.Outputs[0].Type; text == port || port == "T" || len(port) == 1 && text != "binary" && text != "multi" {
			list = append(list, "@"+n.Name)
		}
	}
	return list
}

// randomLink returns a link for a port, from the points, constants, or some nodes; often one that fits.
func randomLink(source *rand.Rand, nodes []api.Node, port string) api.Link {
	if source.Intn(40) == 0 {
		port = pick(source, "binary", "multi", "U", "T")
	}
	word := pick(source, linkWords(port)...)
	if list := suitable(nodes, port); len(list) > 0 && source.Intn(5) < 3 {
		word = pick(source, list...)
	}
	if source.Intn(4) == 0 {
		initial := map[string]string{"binary": "on", "multi": "m1"}[port]
		if initial == "" || source.Intn(30) == 0 {
			initial = pick(source, "#0", "#0", "#0", "#0", "m1", "m3", "off")
		}
		word += "~" + initial
	}
	return link(word)
}

// randomProgram returns a valid program whose links come from any nodes, or only from nodes before.
func randomProgram(source *rand.Rand, count int, onlyBefore bool) api.Program {
	p := api.Program{Name: "p", Period: 1}
	for i := range count {
		n := api.Node{Name: "n" + strconv.Itoa(i), Block: pick(source, block.Names()...)}
		if source.Intn(3) == 0 {
			n.Block = pick(source, "add", "mul", "div", "pick", "choose", "mean", "neg")
		}
		if n.Block == "stage" && source.Intn(2) == 0 {
			n.Params = []api.Param{{Name: "stages", Value: 1 + source.Int63n(15)}}
		}
		p.Nodes = append(p.Nodes, n)
	}
	for i := range p.Nodes {
		n := &p.Nodes[i]
		d, _ := block.Find(n.Block)
		ports, _ := block.Inputs(n.Block, len(d.Inputs)+source.Intn(min(d.Most, 3)))
		from := p.Nodes
		if onlyBefore {
			from = p.Nodes[:i]
		}
		for _, port := range ports {
			n.Inputs = append(n.Inputs, randomLink(source, from, port.Type))
		}
	}
	for _, x := range points() {
		if x.Role != api.Input && source.Intn(6) == 0 {
			port := map[int]string{api.Analog: "U", api.Binary: "binary", api.Multi: "multi"}[x.Kind]
			d := api.Drive{Point: x.Name, Level: 10, From: randomLink(source, p.Nodes, port)}
			if source.Intn(2) == 0 {
				d.From = link(x.Name)
			}
			p.Drives = append(p.Drives, d)
		}
	}
	return p
}

// typesOf returns the types of the nodes of a world.
func (w world) typesOf(t *testing.T) []api.Type {
	var list []string
	for _, n := range w.p.Nodes {
		list = append(list, w.nodes[n.Name])
	}
	return types(t, strings.Join(list, ", "))
}

// place returns where a clash with a text is.
func place(text string) string {
	for _, word := range []string{"drive", "output", "input"} {
		if strings.Contains(text, word) {
			return word
		}
	}
	return "none"
}

func TestP24_1Definitions(t *testing.T) {
	source := rand.New(rand.NewSource(241))
	places := map[string]int{}
	for range 12000 {
		p := randomProgram(source, source.Intn(6), false)
		w := newWorld(p)
		w.infer()
		want := w.clash()
		got, e := typing.Infer(p, points())
		c, f := typing.Witness(p, points())
		if want == "" {
			if e != api.OK || f != api.ErrNone || c != (typing.Clash{}) || !slices.Equal(got, w.typesOf(t)) {
				t.Fatalf("%v: %v, %d, %v, %d, not %v", p, got, e, c, f, w.nodes)
			}
		} else if e != api.ErrType || len(got) != 0 || f != api.OK || typing.Text(c) != want {
			t.Fatalf("%v: %v, %d, %q, %d, not %q", p, got, e, typing.Text(c), f, want)
		}
		places[place(want)]++
		// What Infer returns, or would without the clash, is accepted by Check exactly if there is no clash.
		if typing.Check(p, points(), w.typesOf(t)) != (want == "") {
			t.Fatalf("Check of %v with %v", p, w.nodes)
		}
	}
	if places["none"] < 1000 || places["input"] < 1000 || places["output"] < 40 || places["drive"] < 100 {
		t.Errorf("the clashes: %v", places)
	}
}

func TestP24_2Definitions(t *testing.T) {
	source := rand.New(rand.NewSource(242))
	accepted := 0
	for range 6000 {
		p := randomProgram(source, 1+source.Intn(4), false)
		w := newWorld(p)
		w.infer()
		for _, n := range p.Nodes {
			if source.Intn(4) == 0 {
				w.nodes[n.Name] = pick(source, "binary", "multi 1", "multi 16", "multi 2", "analog one", "analog degC", "analog l", "analog pct", "analog m9")
			}
		}
		want := w.clash() == ""
		if got := typing.Check(p, points(), w.typesOf(t)); got != want {
			t.Fatalf("Check of %v with %v: %v (%s)", p, w.nodes, got, w.clash())
		}
		if want {
			accepted++
		}
	}
	if accepted < 300 {
		t.Errorf("Check accepts %d programs", accepted)
	}
}

// The names of nodes do not matter.
func TestP24_4Names(t *testing.T) {
	source := rand.New(rand.NewSource(243))
	for range 2000 {
		p := randomProgram(source, 1+source.Intn(5), false)
		q, names := p, map[string]string{}
		for i, k := range source.Perm(len(p.Nodes)) {
			names[p.Nodes[i].Name] = pick(source, "a", "x", "z") + strconv.Itoa(k)
			q, _ = program.Rename(q, p.Nodes[i].Name, names[p.Nodes[i].Name])
		}
		first, e := typing.Infer(p, points())
		second, f := typing.Infer(q, points())
		c, g := typing.Witness(p, points())
		d, h := typing.Witness(q, points())
		c.Node = names[c.Node]
		if e != f || g != h || !slices.Equal(first, second) || c != d || (e == api.OK) == (g == api.OK) {
			t.Fatalf("%v: %v, %d, %v, %d; renamed %v, %d, %v, %d", p, first, e, c, g, second, f, d, h)
		}
	}
}

// A program whose links are points or constants, or come from nodes before, has at most one list of types.
func TestP24_4OneList(t *testing.T) {
	source := rand.New(rand.NewSource(244))
	candidates := types(t, "binary, multi 2, multi 4, multi 16, analog one, analog degC, analog l, analog pct, analog K, analog 1/10000*one")
	found := 0
	for range 150 {
		p := randomProgram(source, 2, true)
		inferred, e := typing.Infer(p, points())
		for _, a := range append(candidates, inferred...) {
			for _, b := range append(candidates, inferred...) {
				list := []api.Type{a, b}
				if !typing.Check(p, points(), list) {
					continue
				}
				found++
				if e != api.OK || !slices.Equal(list, inferred) {
					t.Fatalf("%v: Check accepts %v, Infer returns %v, %d", p, list, inferred, e)
				}
			}
		}
	}
	if found < 30 {
		t.Errorf("Check accepts %d lists", found)
	}
}
