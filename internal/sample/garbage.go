package sample

import "hackamore/api"

// Garbage returns entities of any form, right or wrong: those of a program with parts of them replaced by others.
func (m ProgramMaker) Garbage() []api.Entity {
	p := m.Program()
	t := TypeMaker{Pick: m.Pick, Names: map[int][]string{0: {"Any", "main.T0"}, 1: {"main.C0"}}, Params: []string{"A", ""}, Self: true}
	other := func(x api.Type) api.Type {
		switch m.Pick(6) {
		case 0:
			return t.Any(2)
		case 1:
			return t.Wrong(x)
		}
		return x
	}
	for i := range p {
		e := &p[i]
		if m.Pick(8) == 0 {
			e.Kind = m.Pick(7)
		}
		if m.Pick(8) == 0 {
			e.Name = p[m.Pick(len(p))].Name
		}
		for k := range e.Bounds {
			e.Bounds[k].Type = other(e.Bounds[k].Type)
		}
		for k := range e.Provides {
			e.Provides[k] = other(e.Provides[k])
		}
		for k := range e.Fields {
			e.Fields[k].Type = other(e.Fields[k].Type)
		}
		for k := range e.Methods {
			m.spoil(&e.Methods[k], other)
		}
	}
	return p
}

// spoil replaces parts of a method.
func (m ProgramMaker) spoil(x *api.Method, other func(api.Type) api.Type) {
	switch m.Pick(10) {
	case 0:
		x.Kind = m.Pick(5)
	case 1:
		x.Cap = m.Pick(13) - 1
	case 2:
		x.Name = []string{"", "create", "a"}[m.Pick(3)]
	case 3:
		x.Body = m.Expr(3)
	}
	for i := range x.Bounds {
		x.Bounds[i].Type = other(x.Bounds[i].Type)
	}
	for i := range x.Params {
		x.Params[i].Type = other(x.Params[i].Type)
	}
	x.Result = other(x.Result)
}

// Expr returns an expression of any form, right or wrong.
func (m ProgramMaker) Expr(depth int) api.Expr {
	x := api.Expr{Op: m.Pick(api.OpLast+3) - 1, Text: []string{"", "a", "p0", "create"}[m.Pick(4)]}
	if m.Pick(6) == 0 {
		return api.Expr{}
	}
	t := TypeMaker{Pick: m.Pick}
	for range m.Pick(3) {
		x.Types = append(x.Types, t.Any(1))
	}
	if depth > 0 {
		for range m.Pick(4) {
			x.Kids = append(x.Kids, m.Expr(depth-1))
		}
	}
	return x
}
