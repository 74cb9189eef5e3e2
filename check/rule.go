package check

import (
	"slices"
	"unicode/utf8"

	"hackamore/api"
	"hackamore/num"
	"hackamore/subtype"
	"hackamore/types"
)

// place is an expression with where it stands, the method there, and the types of its Kids.
// partial is set by the rules of calls: it tells whether what is called may end with an error.
type place struct {
	Context
	api.Expr
	p       []api.Entity
	owner   api.Entity
	method  api.Method
	kids    []api.Type
	partial bool
}

// ruleTable has a rule for each operation.
type ruleTable [api.OpLast + 1]func(*place) (api.Type, api.Errno)

func rules() ruleTable {
	return ruleTable{
		api.OpLit: (*place).lit, api.OpLocal: (*place).local, api.OpThis: (*place).this, api.OpGet: (*place).get, api.OpSet: (*place).set,
		api.OpVar: (*place).declare, api.OpLet: (*place).declare, api.OpAssign: (*place).assign, api.OpConsume: (*place).consume,
		api.OpSeq: (*place).seq, api.OpIf: (*place).choose, api.OpWhile: (*place).loop, api.OpMatch: (*place).match,
		api.OpCase: (*place).bound, api.OpTry: (*place).try, api.OpError: (*place).leave, api.OpReturn: (*place).giveBack,
		api.OpBreak: (*place).leave, api.OpContinue: (*place).leave, api.OpCall: (*place).call, api.OpNew: (*place).construct,
		api.OpRecover: (*place).recovered, api.OpTuple: (*place).tuple, api.OpItem: (*place).item, api.OpIs: (*place).same,
		api.OpUnit: (*place).unit,
	}
}

// Rule returns the type of an expression, by those of its Kids.
func Rule(p []api.Entity, c Context, x api.Expr, kids []api.Type) (api.Type, api.Errno) {
	if len(kids) != len(x.Kids) {
		return api.Type{}, api.ErrSize
	}
	entity, m, ok := methodAt(p, c.Entity, c.Method)
	if !ok {
		return api.Type{}, api.ErrRange
	}
	if !isShaped(x) {
		return api.Type{}, api.ErrForm
	}
	q := &place{Context: c, Expr: x, p: p, owner: entity, method: m, kids: kids}
	t, e := q.apply(rules())
	return copied(t), e
}

// apply applies the rule of an expression that by itself is right.
func (q *place) apply(l ruleTable) (api.Type, api.Errno) {
	t, e := l[q.Op](q)
	if e != api.OK {
		return api.Type{}, e
	}
	return t, api.OK
}

func (q *place) fits(kid int, t api.Type) bool { return fits(q.p, q.kids[kid], t) }

// kid returns the type of a Kid, None if it is none.
func (q *place) kid(i int) api.Type {
	if isNone(q.Kids[i]) {
		return none()
	}
	return q.kids[i]
}

func (q *place) isTrue(kid int) bool { return q.fits(kid, named("Bool", api.Val)) }

// region returns the number of the innermost region.
func (q *place) region() int {
	if n := len(q.Regions); n > 0 {
		return q.Regions[n-1]
	}
	return 0
}

func (q *place) lit() (api.Type, api.Errno) {
	t := q.Types[0]
	t.Cap, t.Mark = api.Val, api.Plain
	wrong, e := false, api.OK
	switch t.Name {
	case "Bool":
		wrong = q.Text != "true" && q.Text != "false"
	case "String":
		wrong = !utf8.ValidString(q.Text)
	default:
		_, e = num.Parse(t.Name, q.Text)
	}
	if wrong {
		e = api.ErrForm
	}
	return t, e
}

// find returns the local variable that an expression names.
func (q *place) find() (Local, api.Errno) {
	for _, l := range slices.Backward(q.Locals) {
		if l.Name != q.Text {
			continue
		}
		if l.Region != 0 && !slices.Contains(q.Regions, l.Region) {
			break
		}
		return l, api.OK
	}
	return Local{}, api.ErrScope
}

// reach returns the type of the local variable that an expression names, if it may be used here.
func (q *place) reach() (api.Type, api.Errno) {
	l, e := q.find()
	if e == api.OK && l.Region != q.region() && !types.Sendable(l.Type) {
		e = ErrSend
	}
	return l.Type, e
}

func (q *place) local() (api.Type, api.Errno) {
	t, e := q.reach()
	if e != api.OK {
		return t, e
	}
	return held(t)
}

func (q *place) consume() (api.Type, api.Errno) {
	t, e := q.reach()
	if e != api.OK {
		return t, e
	}
	return types.Consumed(t)
}

func (q *place) this() (api.Type, api.Errno) {
	t, e := types.Aliased(named(q.owner.Name, receiver(q.owner, q.method)))
	if e == api.OK && len(q.Regions) > 0 && !types.Sendable(t) {
		e = ErrSend
	}
	return t, e
}

func (q *place) declare() (api.Type, api.Errno) {
	switch {
	case !isHeld(q.Types[0]):
		return api.Type{}, api.ErrForm
	case len(q.kids) > 0 && !q.fits(0, q.Types[0]):
		return api.Type{}, ErrResult
	}
	return none(), api.OK
}

func (q *place) assign() (api.Type, api.Errno) {
	l, e := q.find()
	switch {
	case e != api.OK:
		return api.Type{}, e
	case l.Param:
		return api.Type{}, ErrPlace
	case l.Region != q.region():
		return api.Type{}, ErrSend
	case !q.fits(0, l.Type):
		return api.Type{}, ErrResult
	}
	old, e := types.Consumed(l.Type)
	if e == api.OK && !l.Always {
		return union(old, none())
	}
	return old, e
}

func (q *place) seq() (api.Type, api.Errno) {
	if n := len(q.kids); n > 0 {
		return q.kids[n-1], api.OK
	}
	return none(), api.OK
}

func (q *place) choose() (api.Type, api.Errno) {
	if !q.isTrue(0) {
		return api.Type{}, api.ErrType
	}
	return union(q.kids[1], q.kid(2))
}

func (q *place) loop() (api.Type, api.Errno) {
	if !q.isTrue(0) {
		return api.Type{}, api.ErrType
	}
	return union(q.kids[1], q.kid(2), none())
}

func (q *place) match() (api.Type, api.Errno) {
	if isZero(q.kids[0]) {
		return api.Type{}, api.ErrType
	}
	var sure []api.Type
	c := newComparer(q.p)
	for _, k := range q.Kids[1:] {
		if len(k.Types) != 1 || len(k.Kids) != 2 || !c.mayClaim(q.kids[0], k.Types[0]) {
			return api.Type{}, ErrCases
		}
		if isNone(k.Kids[0]) {
			sure = append(sure, k.Types[0])
		}
	}
	all, e := union(sure...)
	if e != api.OK {
		return api.Type{}, e
	}
	results := slices.Clone(q.kids[1:])
	if !subtype.Bare(q.p, q.kids[0], all) {
		results = append(results, none())
	}
	return union(results...)
}

func (q *place) bound() (api.Type, api.Errno) {
	switch {
	case !isHeld(q.Types[0]):
		return api.Type{}, api.ErrForm
	case !isNone(q.Kids[0]) && !q.isTrue(0):
		return api.Type{}, api.ErrType
	}
	return q.kids[1], api.OK
}

func (q *place) try() (api.Type, api.Errno) { return union(q.kids[0], q.kid(1)) }

func (q *place) leave() (api.Type, api.Errno) { return api.Type{}, api.OK }

func (q *place) giveBack() (api.Type, api.Errno) {
	wanted, given := none(), none()
	if len(q.kids) > 0 {
		given = q.kids[0]
	}
	if q.method.Kind == api.Fun && !isZero(q.method.Result) {
		t, e := types.Self(q.method.Result, q.method.Cap, api.Plain)
		if e != api.OK {
			return api.Type{}, e
		}
		wanted = t
	}
	if !fits(q.p, given, wanted) {
		return api.Type{}, ErrResult
	}
	return api.Type{}, api.OK
}

func (q *place) recovered() (api.Type, api.Errno) {
	if isZero(q.kids[0]) {
		return api.Type{}, api.OK
	}
	t, e := types.Recovered(q.kids[0], q.Types[0].Cap)
	if e != api.OK {
		return t, ErrSend
	}
	return t, api.OK
}

func (q *place) tuple() (api.Type, api.Errno) {
	if slices.ContainsFunc(q.kids, isZero) {
		return api.Type{}, api.OK
	}
	t := api.Type{Kind: api.TypeTuple, Args: q.kids}
	if types.Check(t) != api.OK {
		return api.Type{}, api.ErrSize
	}
	return t, api.OK
}

func (q *place) item() (api.Type, api.Errno) {
	n, _ := index(q.Text)
	switch t := q.kids[0]; {
	case t.Kind != api.TypeTuple:
		return api.Type{}, api.ErrType
	case n >= len(t.Args):
		return api.Type{}, api.ErrRange
	default:
		return t.Args[n], api.OK
	}
}

func (q *place) same() (api.Type, api.Errno) { return named("Bool", api.Val), api.OK }

func (q *place) unit() (api.Type, api.Errno) {
	t := q.Types[0]
	primitive, ok := entityOf(q.p, t)
	_, e := num.Kind(t.Name)
	if !ok || primitive.Kind != api.Primitive || e == api.OK || t.Name == "Bool" {
		return api.Type{}, api.ErrType
	}
	t.Cap, t.Mark = api.Val, api.Plain
	return t, api.OK
}
