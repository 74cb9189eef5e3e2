package world

import (
	"slices"

	"hackamore/api"
)

// mapped returns what f makes of the elements of a list; nil for none.
func mapped[A, B any](l []A, f func(A) B) []B {
	if len(l) == 0 {
		return nil
	}
	out := make([]B, len(l))
	for i, x := range l {
		out[i] = f(x)
	}
	return out
}

// copier copies values; tuples that shared the memory of their elements share it again, so that a copy is no larger.
type copier map[group][]api.Value

func (c copier) value(v api.Value) api.Value {
	if len(v.Kids) == 0 {
		v.Kids = nil
		return v
	}
	kids, ok := c[groupOf(v)]
	if !ok {
		kids = mapped(v.Kids, c.value)
		c[groupOf(v)] = kids
	}
	v.Kids = kids
	return v
}

// copied returns a value that shares no memory with another one.
func copied(v api.Value) api.Value {
	if len(v.Kids) > 0 {
		return copier{}.value(v)
	}
	v.Kids = nil
	return v
}

func copiedMessage(m api.Message) api.Message {
	m.Args = mapped(m.Args, copied)
	return m
}

func copiedSend(x api.Send) api.Send {
	x.Args = slices.Clone(x.Args)
	return x
}

// copiedState returns a state that shares nothing that a world changes: no more than the parts of its program, and the texts of what was sent.
func copiedState(s State) State {
	return State{
		Program: slices.Clone(s.Program),
		Actors: mapped(s.Actors, func(a Actor) Actor {
			return Actor{a.Type, mapped(a.Fields, copied), mapped(a.Mail, copiedMessage)}
		}),
		Cells: mapped(s.Cells, func(c api.Cell) api.Cell {
			c.Fields = mapped(c.Fields, copied)
			return c
		}),
		Trace:  slices.Clone(s.Trace),
		Output: slices.Clone(s.Output),
	}
}

func copiedType(t api.Type) api.Type {
	t.Args = mapped(t.Args, copiedType)
	return t
}

func copiedBound(b api.Bound) api.Bound { return api.Bound{Name: b.Name, Type: copiedType(b.Type)} }

func copiedField(f api.Field) api.Field {
	f.Type = copiedType(f.Type)
	return f
}

func copiedParam(p api.Param) api.Param { return api.Param{Name: p.Name, Type: copiedType(p.Type)} }

func copiedExpr(x api.Expr) api.Expr {
	x.Types = mapped(x.Types, copiedType)
	x.Kids = mapped(x.Kids, copiedExpr)
	return x
}

func copiedMethod(m api.Method) api.Method {
	m.Bounds = mapped(m.Bounds, copiedBound)
	m.Params = mapped(m.Params, copiedParam)
	m.Result = copiedType(m.Result)
	m.Body = copiedExpr(m.Body)
	return m
}

func copiedEntity(e api.Entity) api.Entity {
	e.Bounds = mapped(e.Bounds, copiedBound)
	e.Provides = mapped(e.Provides, copiedType)
	e.Fields = mapped(e.Fields, copiedField)
	e.Methods = mapped(e.Methods, copiedMethod)
	return e
}
