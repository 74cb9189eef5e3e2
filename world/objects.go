package world

import (
	"slices"

	"hackamore/api"
	"hackamore/num"
	"hackamore/subtype"
)

// create puts an object behind the others.
func (w *World) create(c api.Cell) (api.Value, api.Errno) {
	n := len(w.state.Cells)
	if n >= api.MaxCells {
		return api.Value{}, api.ErrFull
	}
	w.state.Cells = append(w.state.Cells, c)
	return api.Value{Kind: api.ValObject, Lo: uint64(n)}, api.OK
}

// askActor returns the error of a world, and of the number of an actor.
func (w *World) askActor(actor int) api.Errno {
	switch {
	case w == nil:
		return api.ErrArg
	case !w.hasActor(actor):
		return api.ErrNone
	}
	return api.OK
}

// Make makes an object whose fields have no values.
func (w *World) Make(actor int, typ string) (api.Value, api.Errno) {
	if e := w.askActor(actor); e != api.OK {
		return api.Value{}, e
	}
	e, ok := w.entityOf(api.Class, typ)
	if !ok {
		return api.Value{}, ErrMethod
	}
	c := api.Cell{Type: typ, Owner: actor}
	if !isString(typ) && !isArray(typ) { // what these have are no fields of a class, also if there is one of the name
		c.Fields = make([]api.Value, len(e.Fields))
	}
	return w.create(c)
}

// Text makes a String.
func (w *World) Text(actor int, bytes string) (api.Value, api.Errno) {
	if e := w.askActor(actor); e != api.OK {
		return api.Value{}, e
	}
	if isLong(bytes) {
		return api.Value{}, api.ErrLarge
	}
	return w.create(api.Cell{Type: stringName, Owner: actor, Bytes: bytes})
}

// Array makes an Array.
func (w *World) Array(actor int, typ string, l []api.Value) (api.Value, api.Errno) {
	if e := w.askActor(actor); e != api.OK {
		return api.Value{}, e
	}
	switch {
	case !isArray(typ):
		return api.Value{}, ErrMethod
	case len(l) > MaxElements:
		return api.Value{}, api.ErrFull
	case !w.areThere(l):
		return api.Value{}, ErrBroken
	}
	return w.create(api.Cell{Type: typ, Owner: actor, Fields: mapped(l, copied)})
}

// parts returns the fields, and their values, of an object of a class, or of an actor.
func (w *World) parts(v api.Value) ([]api.Field, []api.Value, bool) {
	kind, typ, values := api.Class, "", []api.Value(nil)
	switch v.Kind {
	case api.ValObject:
		c := w.state.Cells[v.Lo]
		typ, values = c.Type, c.Fields
	case api.ValActor:
		a := w.state.Actors[v.Lo]
		kind, typ, values = api.Actor, a.Type, a.Fields
	}
	if kind == api.Class && (isString(typ) || isArray(typ)) {
		return nil, nil, false
	}
	e, ok := w.entityOf(kind, typ)
	return e.Fields, values, ok
}

// place returns where the value of a field is.
func (w *World) place(v api.Value, field string) (*api.Value, api.Errno) {
	switch {
	case w == nil:
		return nil, api.ErrArg
	case !w.isRight(v):
		return nil, ErrBroken
	}
	fields, values, ok := w.parts(v)
	if !ok {
		return nil, ErrMethod
	}
	i := slices.IndexFunc(fields, func(f api.Field) bool { return f.Name == field })
	if i < 0 {
		return nil, ErrMethod
	}
	return &values[i], api.OK
}

// Get returns the value of a field.
func (w *World) Get(v api.Value, field string) (api.Value, api.Errno) {
	place, e := w.place(v, field)
	switch {
	case e != api.OK:
		return api.Value{}, e
	case place.Kind == api.ValNone:
		return api.Value{}, ErrUnset
	}
	return copied(*place), api.OK
}

// Set changes a field, and returns what it had.
func (w *World) Set(v api.Value, field string, x api.Value) (api.Value, api.Errno) {
	place, e := w.place(v, field)
	switch {
	case e != api.OK:
		return api.Value{}, e
	case !w.isThere(x):
		return api.Value{}, ErrBroken
	}
	old := *place
	*place = copied(x)
	return old, api.OK
}

// Type returns the name of the entity of a value, "" for a tuple or none.
func (w *World) Type(v api.Value) string {
	if w == nil {
		return ""
	}
	switch n := number(v); v.Kind {
	case api.ValBool:
		return "Bool"
	case api.ValObject:
		if w.hasCell(n) {
			return w.state.Cells[n].Type
		}
		return ""
	case api.ValActor:
		if w.hasActor(n) {
			return w.state.Actors[n].Type
		}
		return ""
	case api.ValUnit:
		return v.Name
	}
	name, _ := num.Name(v.Kind)
	return name
}

// Is reports whether a value is of a type, without regard to capabilities.
func (w *World) Is(v api.Value, t api.Type) bool {
	return w != nil && w.isRight(v) && w.is(v, t)
}

// is is Is of a right value.
func (w *World) is(v api.Value, t api.Type) bool {
	of := func(a api.Type) bool { return w.is(v, a) }
	switch t.Kind {
	case api.TypeName:
		name := w.Type(v)
		return name != "" && subtype.Bare(w.state.Program, api.Type{Kind: api.TypeName, Name: name, Cap: api.Val}, t)
	case api.TypeUnion:
		return slices.ContainsFunc(t.Args, of)
	case api.TypeBoth:
		return !slices.ContainsFunc(t.Args, func(a api.Type) bool { return !of(a) })
	case api.TypeTuple:
		return v.Kind == api.ValTuple && slices.EqualFunc(v.Kids, t.Args, w.is)
	case api.TypeArrow:
		return len(t.Args) > 1 && of(t.Args[1])
	}
	return false
}

// Same reports whether two values are the same.
func Same(a, b api.Value) bool { return comparer{}.same(a, b) }

// comparer compares values. It keeps which elements of tuples are equal: those that a tuple has twice are not compared twice.
type comparer map[[2]group]bool

func (c comparer) same(a, b api.Value) bool {
	if a.Kind != b.Kind || a.Lo != b.Lo || a.Hi != b.Hi || a.Name != b.Name || len(a.Kids) != len(b.Kids) {
		return false
	}
	if len(a.Kids) == 0 {
		return true
	}
	both := [2]group{groupOf(a), groupOf(b)}
	if !c[both] {
		c[both] = slices.EqualFunc(a.Kids, b.Kids, c.same)
	}
	return c[both]
}

// Drop takes an object away.
func (w *World) Drop(cell int) api.Errno {
	switch {
	case w == nil:
		return api.ErrArg
	case !w.hasCell(cell):
		return api.ErrNone
	}
	w.state.Cells[cell] = api.Cell{}
	return api.OK
}

// Remove takes an actor away.
func (w *World) Remove(actor int) api.Errno {
	if e := w.askActor(actor); e != api.OK {
		return e
	}
	a := &w.state.Actors[actor]
	if len(a.Mail) > 0 {
		return api.ErrState
	}
	*a = Actor{}
	return api.OK
}
