package pony

import (
	"slices"
	"strconv"
	"strings"

	"hackamore/api"
	"hackamore/types"
)

// BodyMaker makes bodies for methods of the program of Cells, of which many, but not all, are right; Pick returns a number from 0 to n - 1, by chance.
type BodyMaker struct {
	Pick   func(n int) int
	locals []known
	fresh  int
	loops  int
	result string
}

// known is a local variable that was declared, with the text of its type.
type known struct {
	name, typ string
	assigned  bool // may be assigned again
}

// types returns the texts of the types that these bodies have to do with.
func (m *BodyMaker) types() []string {
	return []string{"U8 val", "Bool val", "None val", "String val", "main.P val", "main.Dog ref", "main.Cat val", "main.Cell iso", "main.Cell trn", "main.Cell ref", "main.Cell box", "main.Cell val", "main.Cell tag",
		"main.Sound box", "main.Act tag", "Any tag", "(U8 val, main.Cell ref)", "(U8 val | None val)", "(main.Cell iso | None val)", "((U8 val, U8 val) | Bool val)", "(main.Dog ref | main.Cat ref)"}
}

// Body returns a body for a method, whose parts have at most a depth.
func (m *BodyMaker) Body(method api.Method, depth int) api.Expr {
	m.locals, m.fresh, m.loops = nil, 0, 0
	for _, p := range method.Params {
		text, _ := types.Text(p.Type)
		m.locals = append(m.locals, known{p.Name, text, false})
	}
	result := "None val"
	if method.Kind == api.Fun {
		if text, e := types.Text(method.Result); e == api.OK {
			result = text
		}
	}
	m.result = result
	return m.block(result, depth)
}

// block returns statements and then a value; what they declare is not known behind it.
func (m *BodyMaker) block(want string, depth int) api.Expr {
	n := len(m.locals)
	x := Expr(api.OpSeq, "")
	for range m.Pick(3) {
		x.Kids = append(x.Kids, m.statement(depth-1))
	}
	x.Kids = append(x.Kids, m.value(want, depth-1))
	m.locals = m.locals[:min(n, len(m.locals))]
	return x
}

func (m *BodyMaker) one(l []string) string { return l[m.Pick(len(l))] }

func (m *BodyMaker) statement(depth int) api.Expr {
	if depth <= 0 {
		return m.value("U8 val", 0)
	}
	switch m.Pick(9) {
	case 0, 1, 2:
		return m.declaration(depth)
	case 3:
		return m.assignment(depth)
	case 4:
		f := []string{"c", "i", "t", "b", "g", "u", "o"}[m.Pick(7)]
		t := map[string]string{"c": "main.Cell ref", "i": "main.Cell iso", "t": "main.Cell trn", "b": "main.Cell box", "g": "main.Cell tag", "u": "U8 val", "o": "(main.Cell iso | None val)"}[f]
		return Expr(api.OpSet, f, Expr(api.OpThis, ""), m.value(t, depth-1))
	case 5:
		return Expr(api.OpIf, "", m.value("Bool val", depth-1), m.block("None val", depth-1), api.Expr{})
	case 6:
		m.loops++
		x := Expr(api.OpWhile, "", m.value("Bool val", depth-1), m.block(m.one(m.types()), depth-1), api.Expr{})
		m.loops--
		return x
	case 7:
		return Expr(api.OpCall, "go", m.value("main.Act tag", depth-1), m.value("main.Cell iso", depth-1))
	}
	return m.value(m.one(m.types()), depth-1)
}

func (m *BodyMaker) declaration(depth int) api.Expr {
	op, t := api.OpVar+m.Pick(2), m.one(m.types())
	v := m.value(t, depth-1)
	m.fresh++
	name := "v" + strconv.Itoa(m.fresh)
	m.locals = append(m.locals, known{name, t, op == api.OpVar})
	return Expr(op, name+": "+t, v)
}

func (m *BodyMaker) assignment(depth int) api.Expr {
	for _, l := range slices.Backward(m.locals) {
		if l.assigned && m.Pick(3) > 0 {
			return Expr(api.OpAssign, l.name, m.value(l.typ, depth-1))
		}
	}
	return m.declaration(depth)
}

// value returns an expression that is meant to be of a type.
func (m *BodyMaker) value(want string, depth int) api.Expr {
	if l := m.locals; len(l) > 0 && m.Pick(3) == 0 {
		if i := m.Pick(len(l)); l[i].typ == want {
			return m.use(i)
		}
	}
	if depth <= 0 || m.Pick(3) == 0 {
		return m.simple(want, depth)
	}
	switch m.Pick(9) {
	case 0, 1:
		return Expr(api.OpIf, "", m.value("Bool val", depth-1), m.block(want, depth-1), m.block(want, depth-1))
	case 2:
		return m.match(want, depth)
	case 3:
		last := api.Expr{}
		if m.Pick(3) == 0 {
			last = m.block("None val", depth-1)
		}
		return Expr(api.OpTry, "", m.risk(want, depth-1), m.block(want, depth-1), last)
	case 4:
		return m.recovered(want, depth)
	case 5:
		return Expr(api.OpItem, "1", Expr(api.OpTuple, "", m.value("U8 val", depth-1), m.value(want, depth-1)))
	case 6:
		return m.block(want, depth)
	case 7:
		return Expr(api.OpIf, "", m.value("Bool val", depth-1), Expr(api.OpReturn, "", m.value(m.result, depth-1)), m.block(want, depth-1))
	}
	return m.simple(want, depth)
}

// use returns a local variable, which is given up where it has to be.
func (m *BodyMaker) use(i int) api.Expr {
	l := m.locals[i]
	if strings.Contains(l.typ, "iso") || strings.Contains(l.typ, "trn") || m.Pick(6) == 0 {
		if m.Pick(8) > 0 {
			m.locals = slices.Delete(slices.Clone(m.locals), i, i+1)
		}
		return Expr(api.OpConsume, l.name)
	}
	return Expr(api.OpLocal, l.name)
}

// risk returns a block that may end with an error.
func (m *BodyMaker) risk(want string, depth int) api.Expr {
	switch m.Pick(3) {
	case 0:
		return Expr(api.OpError, "")
	case 1:
		x := m.block(want, depth)
		check := Expr(api.OpCall, "part", m.value("main.Cell box", depth-1), m.value("U8 val", depth-1))
		x.Kids = append([]api.Expr{check}, x.Kids...)
		return x
	}
	return Expr(api.OpIf, "", m.value("Bool val", depth-1), m.block(want, depth-1), Expr(api.OpError, ""))
}

func (m *BodyMaker) match(want string, depth int) api.Expr {
	l := []string{"(U8 val | None val)", "((U8 val, U8 val) | Bool val)", "(main.Dog ref | main.Cat ref)", "main.Sound box", "(main.Cell iso | None val)", "Any tag"}
	operand := l[m.Pick(len(l))]
	x := Expr(api.OpMatch, "", m.value(operand, depth-1))
	cases := map[string][]string{l[0]: {"U8 val", "None val"}, l[1]: {"(U8 val, U8 val)", "Bool val"}, l[2]: {"main.Dog ref", "main.Cat box"}, l[3]: {"main.Dog box", "main.Cat box"}, l[4]: {"main.Cell iso", "None val"}, l[5]: {"main.Cell tag", "Any tag"}}[operand]
	for i := range 1 + m.Pick(3) {
		t := cases[min(i, 1)]
		n := len(m.locals)
		c := Expr(api.OpCase, ": "+t, api.Expr{})
		if m.Pick(2) == 0 {
			m.fresh++
			c.Text = "k" + strconv.Itoa(m.fresh)
			m.locals = append(m.locals, known{c.Text, t, false})
		}
		if m.Pick(3) == 0 {
			c.Kids[0] = m.value("Bool val", depth-1)
		}
		c.Kids = append(c.Kids, m.block(want, depth-1))
		m.locals = m.locals[:min(n, len(m.locals))]
		x.Kids = append(x.Kids, c)
	}
	if m.Pick(3) > 0 {
		x.Kids = append(x.Kids, Expr(api.OpCase, ": Any tag", api.Expr{}, m.block(want, depth-1)))
	}
	return x
}

// recovered returns a recover block, if values of a type may come out of one.
func (m *BodyMaker) recovered(want string, depth int) api.Expr {
	inner, c := "", api.Iso
	switch want {
	case "main.Cell iso", "main.Cell trn":
		inner = []string{"main.Cell ref", "main.Cell trn", "main.Cell iso"}[m.Pick(3)]
	case "main.Cell val", "main.Cell box":
		inner, c = []string{"main.Cell ref", "main.Cell box", "main.Cell val"}[m.Pick(3)], api.Val
	case "U8 val", "Bool val", "main.Cat val":
		inner, c = want, api.Val
	default:
		return m.simple(want, depth)
	}
	x := Expr(api.OpRecover, "", m.fromOutside(inner, depth-1))
	x.Types = []api.Type{{Kind: api.TypeSelf, Cap: c}}
	return x
}

// fromOutside returns a local variable of a type, or a block.
func (m *BodyMaker) fromOutside(want string, depth int) api.Expr {
	i := slices.IndexFunc(m.locals, func(l known) bool { return l.typ == want })
	if i < 0 || m.Pick(3) == 0 {
		return m.block(want, depth)
	}
	return m.use(i)
}

// simple returns an expression without blocks.
func (m *BodyMaker) simple(want string, depth int) api.Expr {
	this := Expr(api.OpThis, "")
	get := func(f string) api.Expr { return Expr(api.OpGet, f, this) }
	switch want {
	case "U8 val":
		return []api.Expr{Expr(api.OpLit, strconv.Itoa(m.Pick(256))+": "+want), get("u"), Expr(api.OpCall, "m", m.create("main.Dog", "create"))}[m.Pick(3)]
	case "Bool val":
		return []api.Expr{Expr(api.OpLit, "true: "+want), Expr(api.OpLit, "false: "+want), Expr(api.OpIs, "", this, this), Expr(api.OpCall, "id", this, this)}[m.Pick(4)]
	case "String val":
		return Expr(api.OpLit, "s: "+want)
	case "None val", "(U8 val | None val)":
		return Expr(api.OpUnit, ": None val")
	case "main.P val":
		return Expr(api.OpUnit, ": "+want)
	case "main.Dog ref", "main.Sound box", "(main.Dog ref | main.Cat ref)":
		return m.create("main.Dog", "create")
	case "main.Cat val":
		return m.create("main.Cat", "create", m.simple("main.Cell val", depth-1))
	case "main.Cell iso":
		return []api.Expr{m.create("main.Cell", "make", get("d")), Expr(api.OpSet, "i", this, m.maybe("main.Cell iso", depth-1)), m.any("main.Cell iso")}[m.Pick(3)]
	case "main.Cell trn":
		return []api.Expr{Expr(api.OpSet, "t", this, m.maybe("main.Cell trn", depth-1)), m.any("main.Cell trn"), m.any("main.Cell iso")}[m.Pick(3)]
	case "main.Cell ref":
		return []api.Expr{this, get("c"), Expr(api.OpCall, "mine", this), Expr(api.OpCall, "put", this, this), m.any(want)}[m.Pick(5)]
	case "main.Cell box":
		return []api.Expr{this, get("b"), get("t"), Expr(api.OpCall, "get", this), m.any(want)}[m.Pick(5)]
	case "main.Cell val":
		return []api.Expr{get("d"), Expr(api.OpCall, "share", get("d")), m.any(want), this}[m.Pick(4)]
	case "main.Cell tag", "Any tag":
		return []api.Expr{this, get("g"), get("i"), m.any("main.Cell iso")}[m.Pick(4)]
	case "main.Act tag":
		return m.create("main.Act", "create", m.maybe("main.Cell iso", depth-1))
	case "(U8 val, main.Cell ref)":
		return Expr(api.OpTuple, "", m.simple("U8 val", depth-1), m.simple("main.Cell ref", depth-1))
	case "(main.Cell iso | None val)":
		return []api.Expr{Expr(api.OpUnit, ": None val"), Expr(api.OpSet, "o", this, Expr(api.OpUnit, ": None val"))}[m.Pick(2)]
	case "((U8 val, U8 val) | Bool val)":
		return Expr(api.OpTuple, "", m.simple("U8 val", depth-1), m.simple("U8 val", depth-1))
	}
	return m.leave()
}

// maybe is simple, as long as there is depth.
func (m *BodyMaker) maybe(want string, depth int) api.Expr {
	if depth <= 0 {
		return m.any(want)
	}
	return m.simple(want, depth)
}

// any returns a local variable of a type, or leaves.
func (m *BodyMaker) any(want string) api.Expr {
	for i, l := range m.locals {
		if l.typ == want {
			return m.use(i)
		}
	}
	return m.leave()
}

func (m *BodyMaker) leave() api.Expr {
	if m.loops > 0 {
		return Expr([]int{api.OpBreak, api.OpContinue, api.OpError}[m.Pick(3)], "")
	}
	return Expr(api.OpError, "")
}

func (m *BodyMaker) create(entity, name string, args ...api.Expr) api.Expr {
	return Expr(api.OpNew, name+": "+entity+" ref", args...)
}
