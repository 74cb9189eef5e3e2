package meaning_test

import (
	"slices"
	"strconv"
	"testing"

	"hackamore/api"
	"hackamore/check"
	"hackamore/internal/pony"
	"hackamore/internal/sample"
	. "hackamore/meaning"
	"hackamore/world"
)

// graph is a program of actors that have objects by all capabilities; most of its bodies are made by the test.
const graph = `
class Node
  var r: (Node | None) = None
  var i: (Node iso | None) = None
  var t: (Node trn | None) = None
  var v: (Node val | None) = None
  var b: (Node box | None) = None
  var g: (Node tag | None) = None
  var n: U8 = U8(0)
  new create() => None
  new iso fresh() => None
  fun ref mine(): Node => this
  fun box seen(): Node box => this
  fun ref put(x: Node): (Node | None) => r = x
  fun ref hide(x: Node iso): (Node iso | None) => i = consume x
  fun val shared(): Node val => this
actor Act
  var r: (Node | None) = None
  var i: (Node iso | None) = None
  var t: (Node trn | None) = None
  var v: (Node val | None) = None
  var b: (Node box | None) = None
  var g: (Node tag | None) = None
  var peer: (Act | None) = None
  let list: Array[Node] = Array[Node].create()
  new create() => None
  be meet(a: Act) => peer = a
  be take(x: Node iso) => None
  be share(x: Node val) => None
  be point(x: Node tag) => None
  be both(x: Node iso, y: Node val) => None
  be pair(x: (Node iso, Node val)) => None
  be work() => None
  fun ref help(x: Node): Node => x
actor Main
  new create(env: Env) =>
    let a: Act = Act()
    let b: Act = Act()
    let c: Act = Act()
    a.meet(b); b.meet(c); c.meet(a)
    a.work(); b.work(); c.work()
    a.take(Node.fresh()); b.take(Node.fresh()); c.take(Node.fresh())
    a.share(recover val Node() end)
    b.both(Node.fresh(), recover val Node() end)
    a.work(); b.work(); c.work()
`

// writer writes statements by chance; the checker says which of them are right.
type writer struct {
	pick   func(int) int
	locals []string
	fresh  int
}

func (m *writer) one(l ...string) string { return l[m.pick(len(l))] }

func (m *writer) typ() string {
	c := m.one("iso", "trn", "ref", "val", "box", "tag")
	if m.pick(3) == 0 {
		return "(main.Node " + c + " | None val)"
	}
	return "main.Node " + c
}

// object returns what may be a Node.
func (m *writer) object(depth int) api.Expr {
	switch m.pick(9) {
	case 0:
		return makes(m.one("create", "fresh") + ": main.Node")
	case 1, 2, 3:
		if len(m.locals) > 0 {
			op := []int{api.OpLocal, api.OpConsume}[m.pick(2)]
			return expr(op, m.locals[m.pick(len(m.locals))])
		}
	case 4:
		if depth > 0 {
			return expr(api.OpGet, m.one("r", "i", "t", "v", "b", "g"), m.object(depth-1))
		}
	case 5:
		if depth > 0 {
			return expr(api.OpSet, m.one("r", "i", "t", "v", "b", "g"), m.holder(depth-1), m.value(depth-1))
		}
	case 6:
		if depth > 0 {
			return expr(api.OpRecover, ": this "+m.one("iso", "val"), m.block(depth-1))
		}
	case 7:
		if depth > 0 {
			return call(m.one("mine", "seen", "shared"), m.object(depth-1))
		}
	}
	return expr(api.OpGet, m.one("r", "i", "t", "v", "b", "g"), this())
}

func (m *writer) holder(depth int) api.Expr {
	if m.pick(2) == 0 {
		return this()
	}
	return m.object(depth)
}

func (m *writer) value(depth int) api.Expr {
	if m.pick(5) == 0 {
		return expr(api.OpUnit, ": None val")
	}
	return m.object(depth)
}

func (m *writer) block(depth int) api.Expr {
	known := len(m.locals)
	x := seq()
	for range m.pick(3) {
		x.Kids = append(x.Kids, m.statement(depth))
	}
	x.Kids = append(x.Kids, m.value(depth))
	m.locals = m.locals[:known]
	return x
}

func (m *writer) name() string {
	m.fresh++
	return "l" + strconv.Itoa(m.fresh)
}

func (m *writer) statement(depth int) api.Expr {
	switch m.pick(8) {
	case 0, 1:
		name, v := m.name(), m.value(depth)
		m.locals = append(m.locals, name)
		return expr(api.OpVar, name+": "+m.typ(), v)
	case 2, 3:
		return expr(api.OpSet, m.one("r", "i", "t", "v", "b", "g"), m.holder(depth), m.value(depth))
	case 4:
		return m.send(depth)
	case 5:
		if len(m.locals) > 0 {
			return assign(m.locals[m.pick(len(m.locals))], m.value(depth))
		}
	case 6:
		return call("push", expr(api.OpGet, "list", this()), m.object(depth))
	}
	if depth <= 0 {
		return m.send(depth)
	}
	name, known := m.name(), len(m.locals)
	operand := m.object(depth - 1)
	m.locals = append(m.locals, name)
	body := m.block(depth - 1)
	m.locals = m.locals[:known]
	return expr(api.OpMatch, "", operand, expr(api.OpCase, name+": main.Node "+m.one("iso", "trn", "ref", "val", "box", "tag"), no, body))
}

// send sends something to the peer.
func (m *writer) send(depth int) api.Expr {
	name := m.name()
	peer := local(name)
	var x api.Expr
	switch m.pick(6) {
	case 0:
		x = call("work", peer)
	case 1:
		x = call("both", peer, m.object(depth), m.object(depth))
	case 2:
		x = call("pair", peer, expr(api.OpTuple, "", m.object(depth), m.object(depth)))
	default:
		x = call(m.one("take", "share", "point"), peer, m.object(depth))
	}
	return expr(api.OpMatch, "", expr(api.OpGet, "peer", this()), expr(api.OpCase, name+": main.Act tag", no, x))
}

// isOfCapabilities reports whether an error is one of those by which races are ruled out.
func isOfCapabilities(e api.Errno) bool {
	return e == check.ErrArgs || e == check.ErrResult || e == check.ErrSend || e == check.ErrView || e == check.ErrCases
}

// written returns the program with bodies by chance; if it is checked, with those statements alone that the checker takes.
func (m *writer) written(isChecked bool) []api.Entity {
	p := pony.Program(graph)
	for _, name := range []string{"take", "share", "point", "both", "pair", "work"} {
		var i, j int
		var body api.Expr
		p, i, j = pony.With(p, "main.Act", name, func(*api.Method) {})
		m.locals = nil
		for _, x := range p[i].Methods[j].Params {
			m.locals = append(m.locals, x.Name)
		}
		body = seq(expr(api.OpUnit, ": None val"))
		for range 25 {
			known := slices.Clone(m.locals)
			ahead := body
			body.Kids = append([]api.Expr{m.statement(2)}, slices.Clone(body.Kids)...)
			if m.pick(2) == 0 { // at the end
				body.Kids = append(slices.Clone(body.Kids[1:]), body.Kids[0])
			}
			p[i].Methods[j].Body = body
			if _, _, e := check.Method(p, i, j); e != api.OK && (isChecked || !isOfCapabilities(e)) {
				body, m.locals = ahead, known
			}
		}
		p[i].Methods[j].Body = body
	}
	return p
}

// TestChecked checks P18.6: a checked program is never stuck, and has no race; and that programs which are not checked would have been told apart.
func TestChecked(t *testing.T) {
	races, stuck, size, paths := 0, 0, 0, 0
	sent := map[string]int{}
	for seed := range 90 {
		m := &writer{pick: sample.Source(uint64(seed))}
		isChecked := seed%3 > 0
		p := m.written(isChecked)
		if _, f, e := check.Check(p); isChecked && e != api.OK {
			t.Fatalf("error %d at %v", e, f)
		}
		for range 4 {
			w, e := world.New(p, nil)
			if e != api.OK {
				t.Fatal(e)
			}
			for range 60 {
				_, end, ok := Step(w, m.pick(100), 3000)
				if !ok || end.Kind == Fuel {
					break
				}
				a, b, race := w.Race()
				if isChecked && (race || end.Kind == Stuck) {
					t.Fatalf("seed %d: %v, a race: %v (%v and %v)\n%s", seed, end, race, a, b, w.Dump())
				}
				if race {
					races++
				}
				if end.Kind == Stuck {
					stuck++
					break
				}
				if isChecked {
					size += len(w.State().Cells)
					paths += len(w.Paths())
				}
			}
			if e := world.Check(w.State()); e != api.OK {
				t.Fatalf("the state is not right: %d", e)
			}
			for _, x := range w.State().Trace {
				if isChecked {
					sent[x.Name]++
				}
			}
		}
	}
	if races == 0 || stuck == 0 || size < 1000 || paths < 1000 {
		t.Errorf("%d races, %d stuck, %d objects, %d paths", races, stuck, size, paths)
	}
	t.Logf("%d races, %d stuck, %d objects, %d paths, %v", races, stuck, size, paths, sent)
}
