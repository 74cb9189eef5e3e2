package machine

import (
	"strings"

	"hackamore/api"
	"hackamore/code"
	"hackamore/num"
	"hackamore/world"
)

// instruction is what an instruction does in an activation, which goes on behind it.
type instruction func(r *run, a *activation, x *code.Ins)

func instructions() [code.Ops]instruction {
	return [...]instruction{
		code.Const: (*run).constant, code.Move: (*run).move, code.Box: (*run).box, code.Unbox: (*run).unbox, code.Tuple: (*run).tuple, code.Item: (*run).item,
		code.Text: (*run).text, code.Make: (*run).create, code.Stack: (*run).create, code.Get: (*run).get, code.Set: (*run).set,
		code.Call: (*run).call, code.Direct: (*run).direct, code.Native: (*run).native, code.Spawn: (*run).spawn, code.Send: (*run).send,
		code.Same: (*run).same, code.Fits: (*run).fits, code.Jump: (*run).jump, code.Branch: (*run).branch, code.Return: (*run).back, code.Raise: (*run).raise, code.Stuck: (*run).stuck, code.Arith: (*run).arith,
	}
}

func none() api.Value { return api.Value{Kind: api.ValUnit, Name: "None"} }

// wide returns D of an instruction.
func wide(x *code.Ins) int { return x.B + 256*x.C }

// give gives the register A a value, or bits, and goes on.
func (a *activation) give(x *code.Ins, v api.Value) {
	a.put(x.A, v)
	a.next++
}

// bits returns the bits with which a Num is filled.
func bits(lo, hi uint64) api.Value { return api.Value{Lo: lo, Hi: hi} }

func truth(b bool) api.Value {
	if b {
		return bits(1, 0)
	}
	return bits(0, 0)
}

func (r *run) constant(a *activation, x *code.Ins) {
	v := r.Values[wide(x)]
	if a.Classes[x.A] == code.Num {
		v = bits(v.Lo, v.Hi)
	}
	a.give(x, v)
}

func (r *run) move(a *activation, x *code.Ins) { a.give(x, a.bits(x.B)) }

func (r *run) box(a *activation, x *code.Ins) {
	v := a.bits(x.B)
	v.Kind = x.C
	a.give(x, v)
}

func (r *run) unbox(a *activation, x *code.Ins) {
	v := a.value(x.B)
	if v.Kind != x.C {
		wrong(ErrKind)
	}
	a.give(x, bits(v.Lo, v.Hi))
}

func (r *run) arith(a *activation, x *code.Ins) {
	m := r.meaningOf(r.Texts[x.Index[0]])
	one, two := a.bits(x.B), a.bits(x.C)
	if !m.ok {
		wrong(ErrKind)
	}
	one.Kind, two.Kind = m.kinds[0], m.kinds[1]
	v, raised, e := num.Call(m.typ, m.method, []api.Value{one, two})
	must(e)
	if raised {
		wrong(ErrKind)
	}
	a.give(x, bits(v.Lo, v.Hi))
}

func (r *run) tuple(a *activation, x *code.Ins) {
	a.give(x, api.Value{Kind: api.ValTuple, Kids: a.values(x.List)})
}

func (r *run) item(a *activation, x *code.Ins) {
	v := a.value(x.B)
	switch {
	case v.Kind != api.ValTuple:
		wrong(api.ErrType)
	case x.C >= len(v.Kids):
		wrong(api.ErrRange)
	}
	a.give(x, v.Kids[x.C])
}

func (r *run) same(a *activation, x *code.Ins) {
	one, two := a.value(x.B), a.value(x.C)
	a.give(x, truth(world.Same(one, two)))
}

func (r *run) fits(a *activation, x *code.Ins) {
	a.give(x, truth(r.w.Is(a.value(x.B), r.Types[x.Index[0]])))
}

func (r *run) text(a *activation, x *code.Ins) {
	r.lose(a)
	v, e := r.w.Text(r.actor, r.Texts[wide(x)])
	must(e)
	a.give(x, v)
}

func (r *run) create(a *activation, x *code.Ins) {
	r.lose(a)
	name := r.Entities[wide(x)]
	if strings.HasPrefix(name, "Array[") && strings.HasSuffix(name, "]") {
		v, e := r.w.Array(r.actor, name, nil)
		must(e)
		a.give(x, v)
		return
	}
	v, e := r.w.Make(r.actor, name)
	must(e)
	a.give(x, v)
}

// own asks that a value is no other actor than the one for whom the run is.
func (r *run) own(v api.Value) {
	if v.Kind == api.ValActor && v.Lo != uint64(r.actor) {
		wrong(api.ErrCap)
	}
}

func (r *run) get(a *activation, x *code.Ins) {
	of := a.value(x.B)
	r.own(of)
	v, e := r.w.Get(of, r.Texts[x.Index[0]])
	must(e)
	a.give(x, v)
}

func (r *run) set(a *activation, x *code.Ins) {
	of, v := a.value(x.B), a.value(x.C)
	r.own(of)
	old, e := r.w.Set(of, r.Texts[x.Index[0]], v)
	must(e)
	if old.Kind == api.ValNone {
		old = none()
	}
	a.give(x, old)
}

func (r *run) call(a *activation, x *code.Ins) {
	l := a.values(x.List)
	r.lose(a)
	typ, selector := r.w.Type(l[0]), r.Selectors[x.Index[0]]
	if typ == "" {
		wrong(api.ErrType)
	}
	n := r.method(typ, selector)
	switch {
	case n < 0:
		r.deliver(r.given(l[0], selector, l[1:]))
	case n >= len(r.functions):
		wrong(api.ErrRange)
	default:
		r.begin(n, l)
	}
}

func (r *run) direct(a *activation, x *code.Ins) {
	l := a.values(x.List)
	r.lose(a)
	r.begin(x.Index[0], l)
}

func (r *run) native(a *activation, x *code.Ins) {
	l := a.values(x.List)
	r.lose(a)
	text := r.Texts[x.Index[0]]
	r.deliver(r.given(l[0], text[strings.LastIndexByte(text, '.')+1:], l[1:]))
}

func (r *run) spawn(a *activation, x *code.Ins) {
	l := a.values(x.List)
	r.lose(a)
	name, constructor := r.Entities[x.Index[0]], r.Texts[x.Index[1]]
	entity, e := r.w.Entity(name)
	m, e2 := r.w.Method(name, constructor)
	switch {
	case e != api.OK || entity.Kind != api.Actor || e2 != api.OK || m.Kind != api.New:
		wrong(world.ErrMethod)
	case len(m.Params) != len(l):
		wrong(api.ErrSize)
	}
	v, e := r.w.Spawn(name)
	must(e)
	r.post(v, constructor, l)
	a.give(x, v)
}

func (r *run) send(a *activation, x *code.Ins) {
	l := a.values(x.List)
	r.lose(a)
	if l[0].Kind != api.ValActor {
		wrong(api.ErrType)
	}
	r.post(l[0], r.Texts[x.Index[0]], l[1:])
	a.next++
}

// post puts a message into the mail of an actor.
func (r *run) post(to api.Value, name string, args []api.Value) {
	must(r.w.Send(api.Message{From: r.actor, To: int(to.Lo), Name: name, Args: args}))
}

func (r *run) jump(a *activation, x *code.Ins) { a.next = a.places[wide(x)] }

func (r *run) branch(a *activation, x *code.Ins) {
	if a.bits(x.A).Lo&1 == 1 {
		a.next = a.places[wide(x)]
		return
	}
	a.next++
}

func (r *run) back(a *activation, x *code.Ins) {
	v := a.value(x.A)
	r.end(result{value: v})
}

func (r *run) raise(*activation, *code.Ins) { r.end(result{raised: true}) }

func (r *run) stuck(*activation, *code.Ins) { wrong(api.ErrState) }
