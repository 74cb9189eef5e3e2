// Package actors makes programs of actors that share objects by all capabilities, for the tests of the layers that run checked programs.
package actors

import (
	"slices"
	"strconv"
	"strings"

	"hackamore/api"
	"hackamore/check"
	"hackamore/internal/pony"
)

// graph is a program of actors that have objects by all capabilities; most of its bodies are made by chance.
const graph = `
class Node
  var r: (Node | None) = None
  var i: (Node iso | None) = None
  var t: (Node trn | None) = None
  var v: (Node val | None) = None
  var b: (Node box | None) = None
  var g: (Node tag | None) = None
  var n: U8 = U8(0)
  new create() => None
  new iso fresh() => None
  fun ref mine(): Node => this
  fun box seen(): Node box => this
  fun ref put(x: Node): (Node | None) => r = x
  fun ref hide(x: Node iso): (Node iso | None) => i = consume x
  fun val shared(): Node val => this
actor Act
  var r: (Node | None) = None
  var i: (Node iso | None) = None
  var t: (Node trn | None) = None
  var v: (Node val | None) = None
  var b: (Node box | None) = None
  var g: (Node tag | None) = None
  var peer: (Act | None) = None
  let list: Array[Node] = Array[Node].create()
  new create() => None
  be meet(a: Act) => peer = a
  be take(x: Node iso) => None
  be share(x: Node val) => None
  be point(x: Node tag) => None
  be both(x: Node iso, y: Node val) => None
  be pair(x: (Node iso, Node val)) => None
  be work() => None
  fun ref help(x: Node): Node => x
actor Main
  new create(env: Env) =>
    let a: Act = Act()
    let b: Act = Act()
    let c: Act = Act()
    a.meet(b); b.meet(c); c.meet(a)
    a.work(); b.work(); c.work()
    a.take(Node.fresh()); b.take(Node.fresh()); c.take(Node.fresh())
    a.share(recover val Node() end)
    b.both(Node.fresh(), recover val Node() end)
    a.work(); b.work(); c.work()
`

// Maker makes the bodies of a program by chance; the checker says which statements are right. Pick returns a number from 0 to n - 1.
type Maker struct {
	Pick   func(n int) int
	locals []string
	fresh  int
}

func (m *Maker) one(l ...string) string { return l[m.Pick(len(l))] }

func (m *Maker) typ() string {
	c := m.one("iso", "trn", "ref", "val", "box", "tag")
	if m.Pick(3) == 0 {
		return "(main.Node " + c + " | None val)"
	}
	return "main.Node " + c
}

// object returns what may be a Node.
func (m *Maker) object(depth int) api.Expr {
	switch m.Pick(9) {
	case 0:
		return makes(m.one("create", "fresh") + ": main.Node")
	case 1, 2, 3:
		if len(m.locals) > 0 {
			op := []int{api.OpLocal, api.OpConsume}[m.Pick(2)]
			return expr(op, m.locals[m.Pick(len(m.locals))])
		}
	case 4:
		if depth > 0 {
			return expr(api.OpGet, m.one("r", "i", "t", "v", "b", "g"), m.object(depth-1))
		}
	case 5:
		if depth > 0 {
			return expr(api.OpSet, m.one("r", "i", "t", "v", "b", "g"), m.holder(depth-1), m.value(depth-1))
		}
	case 6:
		if depth > 0 {
			return expr(api.OpRecover, ": this "+m.one("iso", "val"), m.block(depth-1))
		}
	case 7:
		if depth > 0 {
			return call(m.one("mine", "seen", "shared"), m.object(depth-1))
		}
	}
	return expr(api.OpGet, m.one("r", "i", "t", "v", "b", "g"), this())
}

func (m *Maker) holder(depth int) api.Expr {
	if m.Pick(2) == 0 {
		return this()
	}
	return m.object(depth)
}

func (m *Maker) value(depth int) api.Expr {
	if m.Pick(5) == 0 {
		return expr(api.OpUnit, ": None val")
	}
	return m.object(depth)
}

func (m *Maker) block(depth int) api.Expr {
	known := len(m.locals)
	x := seq()
	for range m.Pick(3) {
		x.Kids = append(x.Kids, m.statement(depth))
	}
	x.Kids = append(x.Kids, m.value(depth))
	m.locals = m.locals[:known]
	return x
}

func (m *Maker) name() string {
	m.fresh++
	return "l" + strconv.Itoa(m.fresh)
}

func (m *Maker) statement(depth int) api.Expr {
	switch m.Pick(8) {
	case 0, 1:
		name, v := m.name(), m.value(depth)
		m.locals = append(m.locals, name)
		return expr(api.OpVar, name+": "+m.typ(), v)
	case 2, 3:
		return expr(api.OpSet, m.one("r", "i", "t", "v", "b", "g"), m.holder(depth), m.value(depth))
	case 4:
		return m.send(depth)
	case 5:
		if len(m.locals) > 0 {
			return assign(m.locals[m.Pick(len(m.locals))], m.value(depth))
		}
	case 6:
		return call("push", expr(api.OpGet, "list", this()), m.object(depth))
	}
	if depth <= 0 {
		return m.send(depth)
	}
	name, known := m.name(), len(m.locals)
	operand := m.object(depth - 1)
	m.locals = append(m.locals, name)
	body := m.block(depth - 1)
	m.locals = m.locals[:known]
	return expr(api.OpMatch, "", operand, expr(api.OpCase, name+": main.Node "+m.one("iso", "trn", "ref", "val", "box", "tag"), no(), body))
}

// send sends something to the peer.
func (m *Maker) send(depth int) api.Expr {
	name := m.name()
	peer := local(name)
	var x api.Expr
	switch m.Pick(6) {
	case 0:
		x = call("work", peer)
	case 1:
		x = call("both", peer, m.object(depth), m.object(depth))
	case 2:
		x = call("pair", peer, expr(api.OpTuple, "", m.object(depth), m.object(depth)))
	default:
		x = call(m.one("take", "share", "point"), peer, m.object(depth))
	}
	return expr(api.OpMatch, "", expr(api.OpGet, "peer", this()), expr(api.OpCase, name+": main.Act tag", no(), x))
}

// isOfCapabilities reports whether an error is one of those by which races are ruled out.
func isOfCapabilities(e api.Errno) bool {
	return e == check.ErrArgs || e == check.ErrResult || e == check.ErrSend || e == check.ErrView || e == check.ErrCases
}

// Program returns a program of actors with bodies by chance; if it is checked, with those statements alone that the checker takes.
func (m *Maker) Program(isChecked bool) []api.Entity {
	p := pony.Program(graph)
	for _, name := range []string{"take", "share", "point", "both", "pair", "work"} {
		var i, j int
		var body api.Expr
		p, i, j = pony.With(p, "main.Act", name, func(*api.Method) {})
		m.locals = nil
		for _, x := range p[i].Methods[j].Params {
			m.locals = append(m.locals, x.Name)
		}
		body = seq(expr(api.OpUnit, ": None val"))
		for range 25 {
			known := slices.Clone(m.locals)
			ahead := body
			body.Kids = append([]api.Expr{m.statement(2)}, slices.Clone(body.Kids)...)
			if m.Pick(2) == 0 { // at the end
				body.Kids = append(slices.Clone(body.Kids[1:]), body.Kids[0])
			}
			p[i].Methods[j].Body = body
			if _, _, e := check.Method(p, i, j); e != api.OK && (isChecked || !isOfCapabilities(e)) {
				body, m.locals = ahead, known
			}
		}
		p[i].Methods[j].Body = body
	}
	return p
}

func expr(op int, s string, kids ...api.Expr) api.Expr { return pony.Expr(op, s, kids...) }

// no is an expression that is none.
func no() api.Expr { return api.Expr{} }

func local(name string) api.Expr { return expr(api.OpLocal, name) }

func this() api.Expr { return expr(api.OpThis, "") }

func seq(l ...api.Expr) api.Expr { return expr(api.OpSeq, "", l...) }

func assign(name string, x api.Expr) api.Expr { return expr(api.OpAssign, name, x) }

func call(name string, l ...api.Expr) api.Expr { return expr(api.OpCall, name, l...) }

func makes(s string) api.Expr {
	name, typ, _ := strings.Cut(s, ": ")
	return api.Expr{Op: api.OpNew, Text: name, Types: []api.Type{{Kind: api.TypeName, Name: typ, Cap: api.Ref}}}
}
