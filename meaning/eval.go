package meaning

import (
	"slices"
	"strconv"
	"strings"

	"hackamore/api"
	"hackamore/num"
	"hackamore/world"
)

// shape says how many Kids an operation has, and how many Types, from and to.
type shape struct{ least, most, types, mostTypes int }

const many = 1 << 40

// shapes says it as package api does: of an OpCall all Types are type arguments, of an OpNew those behind the first one, and nobody says how many there are.
var shapes = [api.OpLast + 1]shape{
	api.OpLit: {0, 0, 1, 1}, api.OpLocal: {0, 0, 0, 0}, api.OpThis: {0, 0, 0, 0}, api.OpGet: {1, 1, 0, 0}, api.OpSet: {2, 2, 0, 0},
	api.OpVar: {0, 1, 1, 1}, api.OpLet: {0, 1, 1, 1}, api.OpAssign: {1, 1, 0, 0}, api.OpConsume: {0, 0, 0, 0}, api.OpSeq: {0, many, 0, 0},
	api.OpIf: {3, 3, 0, 0}, api.OpWhile: {3, 3, 0, 0}, api.OpMatch: {1, many, 0, 0}, api.OpCase: {2, 2, 1, 1}, api.OpTry: {3, 3, 0, 0},
	api.OpError: {0, 0, 0, 0}, api.OpReturn: {0, 1, 0, 0}, api.OpBreak: {0, 0, 0, 0}, api.OpContinue: {0, 0, 0, 0}, api.OpCall: {1, many, 0, many},
	api.OpNew: {0, many, 1, many}, api.OpRecover: {1, 1, 1, 1}, api.OpTuple: {2, many, 0, 0}, api.OpItem: {1, 1, 0, 0}, api.OpIs: {2, 2, 0, 0},
	api.OpUnit: {0, 0, 1, 1},
}

// isShaped reports whether an expression has as many Kids and Types as its operation has.
func isShaped(e api.Expr) bool {
	if e.Op < 1 || e.Op > api.OpLast {
		return false
	}
	s := shapes[e.Op]
	kids, types := len(e.Kids), len(e.Types)
	return kids >= s.least && kids <= s.most && types >= s.types && types <= s.mostTypes
}

func isNone(e api.Expr) bool { return e.Op == 0 }

// body is a body, or an expression, that is being evaluated: the receiver, and the local variables.
type body struct {
	*run
	this   api.Value
	locals []Local
}

// eval evaluates an expression.
func (b *body) eval(e api.Expr) leaving {
	b.use()
	if !isShaped(e) {
		wrong(api.ErrForm)
	}
	switch e.Op {
	case api.OpLit:
		return valued(b.literal(e))
	case api.OpLocal:
		return valued(b.local(e.Text).Value)
	case api.OpConsume:
		l := b.local(e.Text)
		v := l.Value
		l.Value = api.Value{}
		return valued(v)
	case api.OpThis:
		return valued(b.this)
	case api.OpSeq:
		return b.seq(e)
	case api.OpIf:
		return b.choose(e)
	case api.OpWhile:
		return b.loop(e)
	case api.OpMatch:
		return b.match(e)
	case api.OpTry:
		return b.try(e)
	case api.OpError:
		return leaving{kind: Error}
	case api.OpReturn:
		return b.giveBack(e)
	case api.OpBreak:
		return leaving{kind: Break}
	case api.OpContinue:
		return leaving{kind: Continue}
	case api.OpCall, api.OpNew:
		return b.calling(e)
	}
	return b.operate(e)
}

// literal returns the value of a literal.
func (b *body) literal(e api.Expr) api.Value {
	switch typ := e.Types[0].Name; typ {
	case "String":
		v, code := b.w.Text(b.actor, e.Text)
		must(code)
		return v
	case "Bool":
		if e.Text != "true" && e.Text != "false" {
			wrong(api.ErrForm)
		}
		return boolean(e.Text == "true")
	default:
		v, code := num.Parse(typ, e.Text)
		if code != api.OK { // no limit of the world, also if the text is too long
			wrong(code)
		}
		return v
	}
}

func boolean(b bool) api.Value {
	v := api.Value{Kind: api.ValBool}
	if b {
		v.Lo = 1
	}
	return v
}

// find returns a local variable, nil if there is none.
func (b *body) find(name string) *Local {
	i := slices.IndexFunc(b.locals, func(l Local) bool { return l.Name == name })
	if i < 0 {
		return nil
	}
	return &b.locals[i]
}

// local returns a local variable that has a value.
func (b *body) local(name string) *Local {
	l := b.find(name)
	switch {
	case l == nil:
		wrong(api.ErrScope)
	case l.Value.Kind == api.ValNone:
		wrong(world.ErrUnset)
	}
	return l
}

// declare gives a local variable a value; a new one stands behind the others.
func (b *body) declare(name string, v api.Value) {
	if l := b.find(name); l != nil {
		l.Value = v
		return
	}
	b.locals = append(b.locals, Local{name, v})
}

func (b *body) seq(e api.Expr) leaving {
	last := valued(none())
	for _, k := range e.Kids {
		last = b.eval(k)
		if last.kind != Value {
			break
		}
	}
	return last
}

// other evaluates a Kid that may be none.
func (b *body) other(e api.Expr) leaving {
	if isNone(e) {
		return valued(none())
	}
	return b.eval(e)
}

// holds evaluates a condition; if it has no value, it returns how it leaves.
func (b *body) holds(e api.Expr) (bool, leaving) {
	l := b.eval(e)
	if l.kind == Value && l.value.Kind != api.ValBool {
		wrong(api.ErrType)
	}
	return l.kind == Value && l.value.Lo == 1, l
}

func (b *body) choose(e api.Expr) leaving {
	holds, l := b.holds(e.Kids[0])
	switch {
	case l.kind != Value:
		return l
	case holds:
		return b.eval(e.Kids[1])
	}
	return b.other(e.Kids[2])
}

func (b *body) loop(e api.Expr) leaving {
	last, ran := none(), false
	for {
		holds, l := b.holds(e.Kids[0])
		if l.kind == Value && holds {
			ran = true
			last = none()
			if l = b.eval(e.Kids[1]); l.kind == Value {
				last = l.value
			}
		} else if l.kind == Value {
			break
		}
		switch l.kind {
		case Break:
			return valued(none())
		case Error, Return:
			return l
		}
	}
	if ran {
		return valued(last)
	}
	return b.other(e.Kids[2])
}

func (b *body) match(e api.Expr) leaving {
	operand := b.eval(e.Kids[0])
	if operand.kind != Value {
		return operand
	}
	for _, c := range e.Kids[1:] {
		if c.Op != api.OpCase || !isShaped(c) {
			wrong(api.ErrForm)
		}
		if !b.w.Is(operand.value, c.Types[0]) {
			continue
		}
		if c.Text != "" {
			b.declare(c.Text, operand.value)
		}
		if guard := c.Kids[0]; !isNone(guard) {
			holds, l := b.holds(guard)
			if l.kind != Value {
				return l
			}
			if !holds {
				continue
			}
		}
		return b.eval(c.Kids[1])
	}
	return valued(none())
}

func (b *body) try(e api.Expr) leaving {
	out := b.eval(e.Kids[0])
	if out.kind == Error {
		out = b.other(e.Kids[1])
	}
	if last := b.other(e.Kids[2]); last.kind != Value {
		return last
	}
	return out
}

func (b *body) giveBack(e api.Expr) leaving {
	out := valued(none())
	if len(e.Kids) > 0 {
		out = b.eval(e.Kids[0])
	}
	if out.kind == Value {
		out.kind = Return
	}
	return out
}

// kids evaluates Kids; if one of them has no value, it returns how that one leaves.
func (b *body) kids(l []api.Expr) ([]api.Value, leaving) {
	var values []api.Value
	for _, k := range l {
		x := b.eval(k)
		if x.kind != Value {
			return nil, x
		}
		values = append(values, x.value)
	}
	return values, leaving{}
}

// calling evaluates a call of a method, or of a constructor.
func (b *body) calling(e api.Expr) leaving {
	l, left := b.kids(e.Kids)
	switch {
	case left.kind != Value:
		return left
	case e.Op == api.OpCall:
		return b.call(l[0], e.Text, l[1:])
	}
	return b.construct(e.Types[0].Name, e.Text, l)
}

// construct calls a constructor.
func (b *body) construct(typ, name string, args []api.Value) leaving {
	if name == "create" && len(args) == 0 && strings.HasPrefix(typ, "Array[") {
		v, code := b.w.Array(b.actor, typ, nil)
		must(code)
		return valued(v)
	}
	if _, code := num.Kind(typ); code == api.OK && name == "create" && len(args) == 1 {
		if b.w.Type(args[0]) != typ {
			wrong(api.ErrType)
		}
		return valued(args[0])
	}
	entity, code := b.w.Entity(typ)
	must(code)
	switch entity.Kind {
	case api.Primitive:
		return valued(api.Value{Kind: api.ValUnit, Name: typ})
	case api.Class, api.Actor:
		return b.create(entity, name, args)
	}
	wrong(world.ErrMethod)
	return leaving{}
}

// create makes an object, and runs its constructor, or an actor, and sends its constructor to it.
func (b *body) create(entity api.Entity, name string, args []api.Value) leaving {
	m, code := b.w.Method(entity.Name, name)
	if code != api.OK || m.Kind != api.New {
		wrong(world.ErrMethod)
	}
	b.count(m, args)
	if entity.Kind == api.Actor {
		v, code := b.w.Spawn(entity.Name)
		must(code)
		b.post(v, name, args)
		return valued(v)
	}
	v, code := b.w.Make(b.actor, entity.Name)
	must(code)
	if out := b.runBody(m, v, args); out.kind != Value {
		return out
	}
	return valued(v)
}

// operation is what is done with the values of the Kids.
type operation func(b *body, e api.Expr, l []api.Value) api.Value

func operations() map[int]operation {
	return map[int]operation{
		api.OpGet: (*body).get, api.OpSet: (*body).set, api.OpVar: (*body).bind, api.OpLet: (*body).bind, api.OpAssign: (*body).assign,
		api.OpRecover: (*body).recovered, api.OpTuple: (*body).tuple, api.OpItem: (*body).item, api.OpIs: (*body).same, api.OpUnit: (*body).unit,
	}
}

// operate evaluates the Kids, and does with their values what the operation says.
func (b *body) operate(e api.Expr) leaving {
	do, ok := b.operations[e.Op]
	if !ok { // a case that stands where none may
		wrong(api.ErrForm)
	}
	l, left := b.kids(e.Kids)
	if left.kind != Value {
		return left
	}
	return valued(do(b, e, l))
}

// own asks that a value is no other actor than the one for whom the run is: fields of others are not met.
func (b *body) own(v api.Value) {
	if v.Kind == api.ValActor && v.Lo != uint64(b.actor) {
		wrong(api.ErrCap)
	}
}

func (b *body) get(e api.Expr, l []api.Value) api.Value {
	b.own(l[0])
	v, code := b.w.Get(l[0], e.Text)
	must(code)
	return v
}

func (b *body) set(e api.Expr, l []api.Value) api.Value {
	b.own(l[0])
	old, code := b.w.Set(l[0], e.Text, l[1])
	must(code)
	return orNone(old)
}

// orNone returns the unit None in the place of no value.
func orNone(v api.Value) api.Value {
	if v.Kind == api.ValNone {
		return none()
	}
	return v
}

func (b *body) bind(e api.Expr, l []api.Value) api.Value {
	v := api.Value{}
	if len(l) > 0 {
		v = l[0]
	}
	b.declare(e.Text, v)
	return none()
}

func (b *body) assign(e api.Expr, l []api.Value) api.Value {
	local := b.find(e.Text)
	if local == nil {
		wrong(api.ErrScope)
	}
	old := local.Value
	local.Value = l[0]
	return orNone(old)
}

func (b *body) recovered(_ api.Expr, l []api.Value) api.Value { return l[0] }

func (b *body) tuple(_ api.Expr, l []api.Value) api.Value {
	return api.Value{Kind: api.ValTuple, Kids: l}
}

func (b *body) item(e api.Expr, l []api.Value) api.Value {
	if l[0].Kind != api.ValTuple {
		wrong(api.ErrType)
	}
	i, err := strconv.Atoi(e.Text)
	if err != nil || strconv.Itoa(i) != e.Text || i < 0 || i >= len(l[0].Kids) {
		wrong(api.ErrRange)
	}
	return l[0].Kids[i]
}

func (b *body) same(_ api.Expr, l []api.Value) api.Value { return boolean(world.Same(l[0], l[1])) }

func (b *body) unit(e api.Expr, _ []api.Value) api.Value {
	return api.Value{Kind: api.ValUnit, Name: e.Types[0].Name}
}
