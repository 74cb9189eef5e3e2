package check

import (
	"slices"

	"hackamore/api"
	"hackamore/cap"
	"hackamore/subtype"
	"hackamore/types"
)

// field returns the field that an expression names, of the type of its first Kid.
func (q *place) field() (api.Field, api.Errno) {
	owner, ok := entityOf(q.p, q.kids[0])
	if !ok || owner.Kind != api.Class && owner.Kind != api.Actor {
		return api.Field{}, api.ErrType
	}
	i := slices.IndexFunc(owner.Fields, func(f api.Field) bool { return f.Name == q.Text })
	if i < 0 {
		return api.Field{}, api.ErrNone
	}
	return owner.Fields[i], api.OK
}

func (q *place) get() (api.Type, api.Errno) {
	f, e := q.field()
	if e != api.OK {
		return api.Type{}, e
	}
	t, e := types.Seen(counts(q.kids[0]), f.Type)
	if e != api.OK {
		return t, ErrView
	}
	return types.Aliased(t)
}

func (q *place) set() (api.Type, api.Errno) {
	f, e := q.field()
	origin := counts(q.kids[0])
	ofThis, isNew := q.Kids[0].Op == api.OpThis, q.method.Kind == api.New
	switch {
	case e != api.OK:
		return api.Type{}, e
	case f.Let && !(ofThis && isNew):
		return api.Type{}, ErrPlace
	case !cap.Writes(origin):
		return api.Type{}, ErrView
	case !q.fits(1, f.Type):
		return api.Type{}, ErrResult
	case !types.Storable(origin, q.kids[1]):
		return api.Type{}, ErrSend
	}
	old, e := types.Extracted(origin, f.Type)
	switch {
	case e != api.OK:
		return old, ErrView
	case ofThis && isNew:
		return union(old, none())
	}
	return old, api.OK
}

// call is the rule of calls: a function sees its receiver as it declares it, but one of the runtime as it is.
func (q *place) call() (api.Type, api.Errno) {
	if isZero(q.kids[0]) {
		return api.Type{}, api.ErrType
	}
	m, e := subtype.Lookup(q.p, q.kids[0], q.Text)
	switch {
	case e != api.OK:
		return api.Type{}, api.ErrNone
	case m.Kind == api.New:
		return api.Type{}, ErrPlace
	}
	self := api.Tag
	if m.Kind == api.Fun {
		if self, e = q.seenBy(m); e != api.OK {
			return api.Type{}, e
		}
	}
	if e := q.checkArgs(m, q.kids[1:], self); e != api.OK {
		return api.Type{}, e
	}
	q.partial = m.Partial
	if m.Kind == api.Be || isZero(m.Result) {
		return none(), api.OK
	}
	return types.Self(m.Result, self, api.Plain)
}

// seenBy returns the capability behind which the types of a function stand that is called.
func (q *place) seenBy(m api.Method) (int, api.Errno) {
	l := parts(q.kids[0])
	own := counts(l[0])
	for _, t := range l {
		if t.Kind != api.TypeName || counts(t) != own {
			return 0, api.ErrType
		}
	}
	builtin := isNone(m.Body)
	for _, t := range l {
		if !cap.Fits(t.Cap, t.Mark, m.Cap, api.Plain) {
			return 0, ErrView
		}
		owner, ok := entityOf(q.p, t)
		builtin = builtin && ok && isConcrete(owner.Kind) && Builtin(t.Name)
	}
	if builtin {
		return own, api.OK
	}
	return m.Cap, api.OK
}

// checkArgs returns the error of arguments for the parameters of a method.
func (q *place) checkArgs(m api.Method, args []api.Type, self int) api.Errno {
	if len(args) != len(m.Params) {
		return ErrArgs
	}
	for i, param := range m.Params {
		t, e := types.Self(param.Type, self, api.Plain)
		if e != api.OK {
			return e
		}
		if !fits(q.p, args[i], t) {
			return ErrArgs
		}
	}
	return api.OK
}

func (q *place) construct() (api.Type, api.Errno) {
	owner, ok := entityOf(q.p, q.Types[0])
	if !ok || !isConcrete(owner.Kind) || len(q.Types[0].Args) > 0 {
		return api.Type{}, api.ErrType
	}
	i := slices.IndexFunc(owner.Methods, func(m api.Method) bool { return m.Name == q.Text })
	if i < 0 || owner.Methods[i].Kind != api.New {
		return api.Type{}, api.ErrNone
	}
	m := owner.Methods[i]
	if e := q.checkArgs(m, q.kids, receiver(owner, m)); e != api.OK {
		return api.Type{}, e
	}
	q.partial = m.Partial
	return types.Consumed(named(owner.Name, m.Cap))
}
