package lower

import (
	"strconv"
	"strings"

	"hackamore/api"
	"hackamore/num"
	"hackamore/ssa"
)

// Ways in which an expression is left.
const (
	withValue = iota
	withError
	withReturn
	withBreak
	withContinue
	kinds
)

// way is a way out of what surrounds an expression: leave goes it, if it is one for that kind; failed is where errors go, nil if they go on outwards.
type way struct {
	leave  func(kind, value int) bool
	failed *label
}

// leave goes the innermost way out that there is for a kind.
func (l *lowerer) leave(kind, value int) {
	for i := len(l.around) - 1; i >= 0; i-- {
		if l.around[i].leave(kind, value) {
			return
		}
	}
	if kind == withReturn {
		l.giveBack(value)
		return
	}
	l.jump(l.failed)
}

// failing returns where an error of a call goes, nil if no error is expected.
func (l *lowerer) failing() *label {
	for i := len(l.around) - 1; i >= 0; i-- {
		if to := l.around[i].failed; to != nil {
			return to
		}
	}
	if l.method.Partial {
		return l.failed
	}
	return nil
}

func (l *lowerer) push(w way) { l.around = append(l.around, w) }

func (l *lowerer) pop() { l.around = l.around[:len(l.around)-1] }

// operation lowers an expression; it returns its value, if this is wanted.
type operation func(l *lowerer, e api.Expr, want bool) int

func operations() map[int]operation {
	return map[int]operation{
		api.OpLit: (*lowerer).literal, api.OpLocal: (*lowerer).local, api.OpThis: (*lowerer).this, api.OpGet: (*lowerer).get, api.OpSet: (*lowerer).set,
		api.OpVar: (*lowerer).declare, api.OpLet: (*lowerer).declare, api.OpAssign: (*lowerer).assign, api.OpConsume: (*lowerer).consume, api.OpSeq: (*lowerer).seq,
		api.OpIf: (*lowerer).choose, api.OpWhile: (*lowerer).loop, api.OpMatch: (*lowerer).match, api.OpTry: (*lowerer).tried, api.OpError: (*lowerer).raise,
		api.OpReturn: (*lowerer).returns, api.OpBreak: (*lowerer).breaks, api.OpContinue: (*lowerer).continues, api.OpCall: (*lowerer).calls, api.OpNew: (*lowerer).creates,
		api.OpRecover: (*lowerer).recovered, api.OpTuple: (*lowerer).tuple, api.OpItem: (*lowerer).item, api.OpIs: (*lowerer).is, api.OpUnit: (*lowerer).unit,
	}
}

// eval lowers an expression; of code that is never reached nothing comes.
func (l *lowerer) eval(e api.Expr, want bool) int {
	if l.isDead() {
		return nowhere
	}
	return l.aside[e.Op](l, e, want)
}

// other lowers a Kid that may be none.
func (l *lowerer) other(e api.Expr, want bool) int {
	switch {
	case !isNone(e):
		return l.eval(e, want)
	case want:
		return l.none()
	}
	return nowhere
}

// result is where the value comes together that an expression has on several ways, if it is wanted.
type result struct {
	*lowerer
	name string
	done *label
}

func (l *lowerer) result(want bool) result {
	r := result{lowerer: l, done: newLabel()}
	if want {
		r.name = l.temp()
	}
	return r
}

func (r result) isWanted() bool { return r.name != "" }

// keep keeps a value, if one is wanted.
func (r result) keep(value int) {
	if r.isWanted() {
		r.put(r.name, api.Type{}, value)
	}
}

func (r result) keepNone() {
	if r.isWanted() {
		r.keep(r.none())
	}
}

// come goes with a value to where the ways come together.
func (r result) come(value int) {
	r.keep(value)
	r.jump(r.done)
}

// all goes on there, and returns the value.
func (r result) all() int {
	r.enter(r.done)
	if !r.isWanted() {
		return nowhere
	}
	return r.load(r.name, api.Type{})
}

func (l *lowerer) literal(e api.Expr, _ bool) int {
	switch name := e.Types[0].Name; name {
	case "String":
		return l.ins(ssa.Ins{Op: ssa.Text, Text: e.Text, Type: named(name, api.Val)})
	case "Bool":
		return l.boolean(e.Text == "true")
	default:
		v, _ := num.Parse(name, e.Text)
		return l.constant(v, named(name, api.Val))
	}
}

func (l *lowerer) local(e api.Expr, _ bool) int {
	v := l.variable(e.Text)
	if v.param != nowhere && !v.stored {
		return v.param
	}
	return l.load(v.name, v.typ)
}

func (l *lowerer) this(api.Expr, bool) int { return 0 }

func (l *lowerer) get(e api.Expr, _ bool) int {
	v := l.eval(e.Kids[0], true)
	return l.ins(ssa.Ins{Op: ssa.Get, Text: e.Text, Args: []int{v}, Type: l.field(l.typeOf(v), e.Text)})
}

// set has no type: what the field had may be None, where it had nothing.
func (l *lowerer) set(e api.Expr, _ bool) int {
	return l.ins(ssa.Ins{Op: ssa.Set, Text: e.Text, Args: l.all(e.Kids)})
}

// all lowers Kids, and returns their values.
func (l *lowerer) all(kids []api.Expr) []int {
	var out []int
	for _, k := range kids {
		v := l.eval(k, true)
		out = append(out, v)
	}
	return out
}

func (l *lowerer) declare(e api.Expr, want bool) int {
	v := l.variable(e.Text)
	if len(e.Kids) > 0 {
		l.store(v, l.eval(e.Kids[0], true))
	} else {
		l.empty(v)
	}
	return l.noneIf(want)
}

func (l *lowerer) noneIf(want bool) int {
	if want {
		return l.none()
	}
	return nowhere
}

func (l *lowerer) assign(e api.Expr, want bool) int {
	v := l.variable(e.Text)
	value := l.eval(e.Kids[0], true)
	if want && v.hasShadow() {
		old := l.load(v.shadow(), api.Type{})
		l.store(v, value)
		return old
	}
	return l.store(v, value)
}

func (l *lowerer) consume(e api.Expr, _ bool) int {
	v := l.variable(e.Text)
	value := l.load(v.name, v.typ)
	l.empty(v)
	return value
}

func (l *lowerer) seq(e api.Expr, want bool) int {
	last := len(e.Kids) - 1
	if last < 0 {
		return l.noneIf(want)
	}
	for _, k := range e.Kids[:last] {
		l.eval(k, false)
	}
	return l.eval(e.Kids[last], want)
}

func (l *lowerer) choose(e api.Expr, want bool) int {
	r, yes, no := l.result(want), newLabel(), newLabel()
	if isNone(e.Kids[2]) && !want {
		no = r.done
	}
	l.branch(l.eval(e.Kids[0], true), yes, no)
	l.enter(yes)
	r.come(l.eval(e.Kids[1], want))
	if no != r.done {
		l.enter(no)
		r.come(l.other(e.Kids[2], want))
	}
	return r.all()
}

// loop lowers an OpWhile. Only if there is something to do where the condition never held, it has to be known whether it did.
func (l *lowerer) loop(e api.Expr, want bool) int {
	r, ran := l.result(want), ""
	head, body, over := newLabel(), newLabel(), newLabel()
	r.keepNone()
	if !isNone(e.Kids[2]) {
		ran = l.temp()
		l.put(ran, named("Bool", api.Val), l.boolean(false))
	}
	l.jump(head)
	l.enter(head)
	inBody := false
	l.push(way{leave: func(kind, _ int) bool {
		switch {
		case kind == withBreak:
			r.keepNone()
			l.jump(r.done)
		case kind == withContinue:
			if inBody {
				r.keepNone()
			}
			l.jump(head)
		}
		return kind == withBreak || kind == withContinue
	}})
	l.branch(l.eval(e.Kids[0], true), body, over)
	inBody = true
	l.enter(body)
	if ran != "" {
		l.put(ran, named("Bool", api.Val), l.boolean(true))
	}
	r.keep(l.eval(e.Kids[1], want))
	l.jump(head)
	l.pop()
	l.enter(over)
	if ran != "" {
		never := newLabel()
		l.branch(l.load(ran, named("Bool", api.Val)), r.done, never)
		l.enter(never)
		r.keep(l.eval(e.Kids[2], want))
	}
	l.jump(r.done)
	return r.all()
}

func (l *lowerer) match(e api.Expr, want bool) int {
	r := l.result(want)
	operand := l.eval(e.Kids[0], true)
	for _, c := range e.Kids[1:] {
		yes, next := newLabel(), newLabel()
		l.branch(l.ins(ssa.Ins{Op: ssa.Fits, Args: []int{operand}, Type: c.Types[0]}), yes, next)
		l.enter(yes)
		if c.Text != "" {
			l.store(l.variable(c.Text), operand)
		}
		if !isNone(c.Kids[0]) {
			holds := newLabel()
			l.branch(l.eval(c.Kids[0], true), holds, next)
			l.enter(holds)
		}
		r.come(l.eval(c.Kids[1], want))
		l.enter(next)
	}
	r.keepNone()
	l.jump(r.done)
	return r.all()
}

// tried lowers an OpTry. What is to be done last stands on each way out of it: the ways of one kind go it together.
func (l *lowerer) tried(e api.Expr, want bool) int {
	r, handler, last := l.result(want), newLabel(), e.Kids[2]
	var ends [kinds]*label
	back := ""
	ends[withValue] = r.done
	if !isNone(last) {
		for k := range ends {
			ends[k] = newLabel()
		}
		back = l.temp()
		l.push(way{failed: ends[withError], leave: func(kind, value int) bool {
			if kind == withReturn {
				l.put(back, api.Type{}, value)
			}
			l.jump(ends[kind])
			return true
		}})
	}
	l.push(way{failed: handler, leave: func(kind, _ int) bool {
		if kind == withError {
			l.jump(handler)
		}
		return kind == withError
	}})
	r.keep(l.eval(e.Kids[0], want))
	l.jump(ends[withValue])
	l.pop()
	l.enter(handler)
	r.keep(l.other(e.Kids[1], want))
	l.jump(ends[withValue])
	if !isNone(last) {
		l.pop()
		l.lastly(last, ends, r.done, back)
	}
	return r.all()
}

// lastly does what is to be done last, and then goes on.
func (l *lowerer) lastly(last api.Expr, ends [kinds]*label, done *label, back string) {
	for kind, to := range ends {
		l.enter(to)
		l.eval(last, false)
		switch {
		case l.isDead():
		case kind == withValue:
			l.jump(done)
		case kind == withReturn:
			l.leave(kind, l.load(back, api.Type{}))
		default:
			l.leave(kind, nowhere)
		}
	}
}

func (l *lowerer) raise(api.Expr, bool) int {
	l.leave(withError, nowhere)
	return nowhere
}

func (l *lowerer) returns(e api.Expr, _ bool) int {
	v := nowhere
	if len(e.Kids) > 0 {
		v = l.eval(e.Kids[0], true)
	} else {
		v = l.none()
	}
	if !l.isDead() {
		l.leave(withReturn, v)
	}
	return nowhere
}

func (l *lowerer) breaks(api.Expr, bool) int {
	l.leave(withBreak, nowhere)
	return nowhere
}

func (l *lowerer) continues(api.Expr, bool) int {
	l.leave(withContinue, nowhere)
	return nowhere
}

func (l *lowerer) recovered(e api.Expr, _ bool) int { return l.eval(e.Kids[0], true) }

func (l *lowerer) tuple(e api.Expr, _ bool) int {
	values := l.all(e.Kids)
	t := api.Type{Kind: api.TypeTuple}
	for _, v := range values {
		part := l.typeOf(v)
		if part.Kind == 0 {
			return l.ins(ssa.Ins{Op: ssa.Tuple, Args: values})
		}
		t.Args = append(t.Args, part)
	}
	return l.ins(ssa.Ins{Op: ssa.Tuple, Args: values, Type: t})
}

// item lowers an OpItem; a tuple that was made has no element with an index that an instruction cannot have.
func (l *lowerer) item(e api.Expr, _ bool) int {
	v := l.eval(e.Kids[0], true)
	n, err := strconv.Atoi(e.Text)
	if err != nil || n >= api.MaxList {
		return l.never()
	}
	x := ssa.Ins{Op: ssa.Item, Args: []int{v}, N: n}
	if t := l.typeOf(v); t.Kind == api.TypeTuple && n < len(t.Args) {
		x.Type = t.Args[n]
	}
	return l.ins(x)
}

// never ends the block: what would be done here is wrong.
func (l *lowerer) never() int {
	l.end(ssa.End{Kind: ssa.Stuck})
	return nowhere
}

func (l *lowerer) is(e api.Expr, _ bool) int {
	return l.ins(ssa.Ins{Op: ssa.Is, Args: l.all(e.Kids), Type: named("Bool", api.Val)})
}

func (l *lowerer) unit(e api.Expr, _ bool) int { return l.unitOf(e.Types[0].Name) }

func (l *lowerer) unitOf(name string) int {
	return l.constant(api.Value{Kind: api.ValUnit, Name: name}, named(name, api.Val))
}

// invoke makes a call; if it may raise an error, and there is somewhere to go with it, this is where it goes.
func (l *lowerer) invoke(x ssa.Ins, raises bool) int {
	if to := l.failing(); raises && to != nil {
		return l.try(x, to)
	}
	return l.ins(x)
}

// calls lowers an OpCall. Of a name that is a behaviour of some actors, and something else of others, it asks for the receiver's type.
func (l *lowerer) calls(e api.Expr, want bool) int {
	values := l.all(e.Kids)
	if l.isDead() {
		return nowhere
	}
	send := ssa.Ins{Op: ssa.Send, Text: e.Text, Args: values, Type: named("None", api.Val)}
	call := ssa.Ins{Op: ssa.Call, Text: e.Text, Args: values, Type: l.facts.result(l.typeOf(values[0]), e.Text)}
	switch {
	case len(l.bes[e.Text]) == 0:
		return l.invoke(call, l.raising[e.Text])
	case !l.others[e.Text]:
		return l.ins(send)
	}
	r, yes, no := l.result(want), newLabel(), newLabel()
	l.branch(l.ins(ssa.Ins{Op: ssa.Fits, Args: values[:1], Type: l.actorsType(e.Text)}), yes, no)
	l.enter(yes)
	r.come(l.ins(send))
	l.enter(no)
	r.come(l.invoke(call, l.raising[e.Text]))
	return r.all()
}

// creates lowers an OpNew.
func (l *lowerer) creates(e api.Expr, _ bool) int {
	values := l.all(e.Kids)
	if l.isDead() {
		return nowhere
	}
	typ := e.Types[0].Name
	if e.Text == "create" && len(values) == 0 && strings.HasPrefix(typ, "Array[") {
		return l.ins(ssa.Ins{Op: ssa.Make, Text: typ, Type: named(typ, api.Ref)})
	}
	if _, code := num.Kind(typ); code == api.OK && e.Text == "create" && len(values) == 1 {
		return values[0]
	}
	x := l.entities[typ]
	if x.Kind == api.Primitive {
		return l.unitOf(typ)
	}
	m, ok := l.facts.method(typ, e.Text)
	if !ok || m.Kind != api.New || len(m.Params) != len(values) {
		return l.never()
	}
	switch {
	case x.Kind == api.Actor:
		return l.ins(ssa.Ins{Op: ssa.Spawn, Name: typ, Text: e.Text, Args: values, Type: named(typ, api.Tag)})
	case x.Kind == api.Class && hasBody(m):
		object := l.ins(ssa.Ins{Op: ssa.Make, Text: typ, Type: named(typ, api.Ref)})
		l.invoke(ssa.Ins{Op: ssa.Direct, Text: typ + "." + e.Text, Args: append([]int{object}, values...)}, m.Partial)
		return object
	}
	return l.never()
}
