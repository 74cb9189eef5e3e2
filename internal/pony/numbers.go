package pony

import (
	"strconv"

	"hackamore/api"
)

// Numbers is the text of a program whose method Main.test is to be given bodies.
const Numbers = `
trait Shape
  fun size(): U8 => U8(1)
  fun twice(): U8 => this.size() + this.size()
class Cell is Shape
  var v: U8
  var next: (Cell | None)
  new create(x: U8) =>
    v = x
    next = None
  new risk(x: U8) ? =>
    v = x
    next = None
    if x == U8(0) then error end
  fun size(): U8 => v
  fun ref put(x: U8): U8 => v = x
  fun ref tie(c: Cell): None => next = c
  fun part(x: U8): U8 ? => if x == U8(0) then error else x end
  fun deep(x: U8): U8 => if x == U8(0) then v else this.deep(x - U8(1)) end
  fun go(x: U8): U8 => x + U8(1)
actor Act
  var sum: U8
  let out: Out
  new create(o: Out, x: U8) =>
    out = o
    sum = x
  be go(x: U8) =>
    sum = sum + x
    out.print(sum.string())
  be back(m: Main, x: U8) => m.test(x, x)
actor Main
  var out: Out
  var cell: Cell
  var act: Act
  let list: Array[U8]
  new create(env: Env) =>
    out = env.out
    cell = Cell(U8(3))
    act = Act(env.out, U8(5))
    list = Array[U8].create()
    this.test(U8(1), U8(2))
    this.test(U8(0), U8(0))
  be test(a: U8, b: U8) => None
  fun ref help(a: U8): U8 => a
  fun ref maybe(a: U8): U8 ? => if a == U8(0) then error else a end
`

// NumberMaker makes bodies by chance that have to do with numbers, for the program of Numbers; not all are right. Pick returns a number from 0 to n - 1.
type NumberMaker struct {
	Pick  func(n int) int
	loops int
}

func (m *NumberMaker) name() string { return []string{"a", "b", "x", "y"}[m.Pick(4)] }

// number returns what is meant to be a number.
func (m *NumberMaker) number(depth int) api.Expr {
	if depth <= 0 {
		return []api.Expr{literal(m.Pick(3)), local("a"), local("b"), literal(1)}[m.Pick(4)]
	}
	d := depth - 1
	switch m.Pick(16) {
	case 0:
		return seq(m.statement(d), m.number(d))
	case 1:
		return Expr(api.OpIf, "", m.boolean(d), m.number(d), m.number(d))
	case 2:
		return Expr(api.OpTry, "", m.number(d), m.number(d), m.last(d))
	case 3:
		return Expr(api.OpMatch, "", m.number(d), Expr(api.OpCase, []string{"", "x"}[m.Pick(2)]+": U8 val", m.boolean(d), m.number(d)), Expr(api.OpCase, ": Any tag", api.Expr{}, m.number(d)))
	case 4:
		return Expr(api.OpAssign, m.name(), m.number(d))
	case 5:
		return Expr(api.OpConsume, m.name())
	case 6:
		return call("maybe", this(), m.number(d))
	case 7:
		return call([]string{"part", "go", "put"}[m.Pick(3)], Expr(api.OpGet, "cell", this()), m.number(d))
	case 8:
		return m.leave(d)
	case 9:
		return Expr(api.OpItem, strconv.Itoa(m.Pick(2)), Expr(api.OpTuple, "", m.number(d), m.number(d)))
	case 10:
		return m.loop(d)
	case 11:
		return Expr(api.OpSet, "v", Expr(api.OpGet, "cell", this()), m.number(d))
	case 12:
		return call("add_partial", m.number(d), literal(m.Pick(300)%256))
	case 13:
		return call("size", Expr(api.OpNew, []string{"create", "risk"}[m.Pick(2)]+": main.Cell ref", m.number(d)))
	}
	return call([]string{"add", "sub", "mul"}[m.Pick(3)], m.number(d), m.number(d))
}

func (m *NumberMaker) last(depth int) api.Expr {
	if m.Pick(2) == 0 {
		return api.Expr{}
	}
	return m.statement(depth)
}

func (m *NumberMaker) boolean(depth int) api.Expr {
	switch m.Pick(4) {
	case 0:
		return boolean(m.Pick(2) == 0)
	case 1:
		return seq(m.statement(depth), call("lt", m.number(depth-1), literal(2)))
	}
	return call("eq", m.number(depth-1), m.number(0))
}

// leave returns what has no value.
func (m *NumberMaker) leave(depth int) api.Expr {
	ops := []int{api.OpError, api.OpReturn, api.OpBreak, api.OpContinue}
	op := ops[m.Pick(2+2*min(m.loops, 1))]
	if op == api.OpReturn {
		return Expr(op, "", m.number(depth))
	}
	return Expr(op, "")
}

// loop returns a loop that has an end.
func (m *NumberMaker) loop(depth int) api.Expr {
	i := "i" + strconv.Itoa(m.loops)
	m.loops++
	body := seq(Expr(api.OpAssign, i, call("add", local(i), literal(1))), m.statement(depth), m.number(depth))
	cond := call("lt", local(i), literal(1+m.Pick(3)))
	if m.Pick(3) == 0 {
		cond = seq(Expr(api.OpAssign, i, call("add", local(i), literal(1))), m.statement(depth), cond)
	}
	m.loops--
	other := api.Expr{}
	if m.Pick(2) == 0 {
		other = m.number(depth)
	}
	return seq(Expr(api.OpVar, i+": U8 val", literal(0)), Expr(api.OpWhile, "", cond, body, other))
}

func (m *NumberMaker) statement(depth int) api.Expr {
	switch m.Pick(9) {
	case 0:
		return Expr(api.OpVar, m.name()+": U8 val", m.number(depth-1))
	case 1:
		return Expr(api.OpVar, m.name()+": U8 val")
	case 2:
		return Expr(api.OpIf, "", m.boolean(depth-1), m.statement(depth-1), []api.Expr{{}, m.statement(0)}[m.Pick(2)])
	case 3:
		return call("go", []api.Expr{Expr(api.OpGet, "act", this()), Expr(api.OpGet, "cell", this())}[m.Pick(2)], m.number(depth-1))
	case 4:
		if depth > 0 {
			return Expr(api.OpTry, "", m.statement(depth-1), m.statement(depth-1), m.last(depth-1))
		}
	case 5:
		return Expr(api.OpAssign, m.name(), m.number(depth-1))
	}
	return say(m.number(depth - 1))
}

func literal(n int) api.Expr { return Expr(api.OpLit, strconv.Itoa(n)+": U8 val") }

func boolean(b bool) api.Expr { return Expr(api.OpLit, strconv.FormatBool(b)+": Bool val") }

func seq(kids ...api.Expr) api.Expr { return Expr(api.OpSeq, "", kids...) }

func local(name string) api.Expr { return Expr(api.OpLocal, name) }

func call(name string, kids ...api.Expr) api.Expr { return Expr(api.OpCall, name, kids...) }

func this() api.Expr { return Expr(api.OpThis, "") }

// say sends the text of a value to the actor that prints, which is what this.out has.
func say(e api.Expr) api.Expr {
	return call("print", Expr(api.OpGet, "out", this()), call("string", e))
}

// With returns the program of Numbers with bodies by chance.
func (m *NumberMaker) With(p []api.Entity) []api.Entity {
	body := Expr(api.OpTry, "", seq(m.statement(3), m.statement(3), m.statement(3)), say(literal(200)), api.Expr{})
	if m.Pick(2) == 0 {
		body = seq(Expr(api.OpVar, "x: U8 val", literal(9)), Expr(api.OpVar, "y: U8 val", literal(8)), body)
	}
	p, _, _ = With(p, "main.Main", "test", func(x *api.Method) { x.Body = body })
	p, _, _ = With(p, "main.Cell", "part", func(x *api.Method) { x.Body = m.number(2) })
	return p
}
