package types

import (
	"slices"

	"hackamore/api"
	"hackamore/cap"
)

// substitution replaces type parameters by types; wrong is the first error of these.
type substitution struct {
	params []string
	args   []api.Type
	wrong  api.Errno
}

// Subst returns a type in which type parameters are replaced.
func Subst(t api.Type, params []string, args []api.Type) (api.Type, api.Errno) {
	if len(params) != len(args) {
		return api.Type{}, api.ErrArg
	}
	s := substitution{params, args, checkAll(args)}
	return s.of(t)
}

// of is Subst.
func (s substitution) of(t api.Type) (api.Type, api.Errno) {
	if e := Check(t); e != api.OK {
		return api.Type{}, e
	}
	if s.wrong != api.OK {
		return api.Type{}, s.wrong
	}
	return result(s.node(t))
}

func (s substitution) node(t api.Type) (api.Type, api.Errno) {
	if t.Kind == api.TypeParam {
		return s.param(t), api.OK
	}
	l := t.Args
	t.Args = nil
	for i, a := range l {
		x, e := s.node(a)
		if t.Kind == api.TypeArrow && i == 0 && e == api.OK {
			x, e = firstOf(x)
		}
		if e != api.OK {
			return api.Type{}, e
		}
		t.Args = append(t.Args, x)
	}
	return t, api.OK
}

// param returns what a type parameter becomes.
func (s substitution) param(t api.Type) api.Type {
	i := slices.Index(s.params, t.Name)
	if i < 0 {
		return t
	}
	x := clone(s.args[i])
	if t.Cap != api.CapNone {
		x, _ = replace(x, openArrows, setting(t.Cap))
	}
	switch t.Mark {
	case api.Ephemeral:
		x, _ = replace(x, keepArrows, marking(consuming))
	case api.Aliased:
		x, _ = replace(x, keepArrows, marking(holding))
	}
	return x
}

// firstOf returns what becomes the first one of an arrow.
func firstOf(t api.Type) (api.Type, api.Errno) {
	switch t.Kind {
	case api.TypeName, api.TypeSelf:
		return api.Type{Kind: api.TypeSelf, Cap: t.Cap, Mark: t.Mark}, api.OK
	case api.TypeParam:
		return t, api.OK
	}
	return api.Type{}, api.ErrForm
}

// Self returns a type in which the receiver has a capability.
func Self(t api.Type, c, mark int) (api.Type, api.Errno) {
	if e := Check(t); e != api.OK {
		return api.Type{}, e
	}
	if !cap.Is(c) {
		return api.Type{}, api.ErrCap
	}
	if mark < api.Plain || mark > api.Aliased {
		return api.Type{}, api.ErrArg
	}
	return result(withSelf(t, api.Type{Kind: api.TypeSelf, Cap: c, Mark: mark}))
}

// withSelf replaces receivers without a capability, and then the arrows that begin with one, from the innermost ones on.
func withSelf(t, self api.Type) (api.Type, api.Errno) {
	if t.Kind == api.TypeSelf && t.Cap == api.CapNone {
		return self, api.OK
	}
	l := t.Args
	t.Args = nil
	for _, a := range l {
		x, e := withSelf(a, self)
		if e != api.OK {
			return api.Type{}, e
		}
		t.Args = append(t.Args, x)
	}
	if t.Kind == api.TypeArrow && t.Args[0].Kind == api.TypeSelf {
		return seenFrom(t.Args[0], t.Args[1])
	}
	return t, api.OK
}

// Method returns a method in whose types type parameters are replaced.
func Method(m api.Method, params []string, args []api.Type) (api.Method, api.Errno) {
	if len(params) != len(args) {
		return api.Method{}, api.ErrArg
	}
	if !fitsBody(m.Body) {
		return api.Method{}, api.ErrSize
	}
	s := &substituting{substitution: substitution{params, args, checkAll(args)}}
	out := s.method(m)
	if s.first != api.OK {
		return api.Method{}, s.first
	}
	return out, api.OK
}

// fitsBody reports whether a body is not too large. It looks at no more of it than it must.
func fitsBody(x api.Expr) bool {
	left := api.MaxNodes
	var count func(x api.Expr, depth int) bool
	count = func(x api.Expr, depth int) bool {
		left--
		if left < 0 || depth > api.MaxTree {
			return false
		}
		return !slices.ContainsFunc(x.Kids, func(k api.Expr) bool { return !count(k, depth+1) })
	}
	return count(x, 1)
}

// substituting is a substitution in the types of a method, one by one; first is the first error.
type substituting struct {
	substitution
	first api.Errno
}

func (s *substituting) typ(t api.Type) api.Type {
	if t.Kind == 0 || s.first != api.OK {
		return clone(t)
	}
	t, s.first = s.of(t)
	return t
}

func (s *substituting) method(m api.Method) api.Method {
	bounds, params := m.Bounds, m.Params
	m.Bounds, m.Params = nil, nil
	for _, b := range bounds {
		if !slices.Contains(s.params, b.Name) {
			m.Bounds = append(m.Bounds, api.Bound{Name: b.Name, Type: s.typ(b.Type)})
		}
	}
	for _, p := range params {
		m.Params = append(m.Params, api.Param{Name: p.Name, Type: s.typ(p.Type)})
	}
	m.Result = s.typ(m.Result)
	m.Body = s.expr(m.Body)
	return m
}

func (s *substituting) expr(x api.Expr) api.Expr {
	out := api.Expr{Op: x.Op, Text: x.Text}
	for _, t := range x.Types {
		out.Types = append(out.Types, s.typ(t))
	}
	for _, k := range x.Kids {
		out.Kids = append(out.Kids, s.expr(k))
	}
	return out
}
