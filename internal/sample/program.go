package sample

import (
	"strconv"

	"hackamore/api"
)

// ProgramMaker makes programs; Pick returns a number from 0 to n - 1, by chance.
type ProgramMaker struct {
	Pick func(n int) int
	// Generic programs have entities, and methods, with type parameters.
	Generic bool
}

// Program returns entities: traits and interfaces first, then classes, actors and primitives, and last the actor main.Main.
func (m ProgramMaker) Program() []api.Entity {
	names := map[int][]string{}
	var p []api.Entity
	add := func(kind int, name string) {
		e := api.Entity{Kind: kind, Name: name, Cap: api.Ref}
		if m.Generic && m.Pick(3) == 0 {
			for i := range 1 + m.Pick(2) {
				e.Bounds = append(e.Bounds, api.Bound{Name: []string{"A", "B"}[i]})
			}
		}
		names[len(e.Bounds)] = append(names[len(e.Bounds)], name)
		p = append(p, e)
	}
	add(api.Interface, "Any")
	p[0].Bounds = nil
	names = map[int][]string{0: {"Any"}}
	for i := range 1 + m.Pick(4) {
		add(api.Trait+m.Pick(2), "main.T"+strconv.Itoa(i))
	}
	above := map[int][]string{}
	for n, l := range names {
		above[n] = append([]string(nil), l...)
	}
	for i := range 1 + m.Pick(4) {
		add(api.Class+m.Pick(3), "main.C"+strconv.Itoa(i))
	}
	p = append(p, api.Entity{Kind: api.Actor, Name: "main.Main", Cap: api.Tag})
	for i := range p[1:] {
		m.fill(&p[i+1], above, names)
	}
	last := &p[len(p)-1]
	last.Methods = append(last.Methods, api.Method{Kind: api.New, Name: "create", Cap: api.Tag, Body: api.Expr{Op: api.OpThis}})
	return p
}

// types returns a maker of types, in which the parameters of bounds may occur.
func (m ProgramMaker) types(names map[int][]string, l ...[]api.Bound) TypeMaker {
	t := TypeMaker{Pick: m.Pick, Names: names, Self: m.Pick(4) == 0, Plain: m.Pick(2) == 0}
	for _, bounds := range l {
		for _, b := range bounds {
			t.Params = append(t.Params, b.Name)
		}
	}
	return t
}

// fill makes an entity's bounds, supertypes, fields and methods.
func (m ProgramMaker) fill(e *api.Entity, above, names map[int][]string) {
	for i := range e.Bounds {
		e.Bounds[i].Type = m.bound(above)
	}
	for range m.Pick(3) {
		t := m.types(above, e.Bounds)
		t.Self = false
		e.Provides = append(e.Provides, t.Named(2))
	}
	if e.Kind == api.Class || e.Kind == api.Actor {
		for i := range m.Pick(3) {
			t := m.types(names, e.Bounds)
			t.Self = false
			e.Fields = append(e.Fields, api.Field{Name: "f" + strconv.Itoa(i), Let: m.Pick(2) == 0, Type: t.Type(2)})
		}
	}
	for range m.Pick(4) {
		e.Methods = append(e.Methods, m.method(*e, names, above))
	}
}

// bound returns the type of a bound: one with a set of capabilities, or with a capability.
func (m ProgramMaker) bound(above map[int][]string) api.Type {
	if m.Pick(3) == 0 {
		return api.Type{Kind: api.TypeName, Name: "Any", Cap: api.CapRead + m.Pick(5)}
	}
	t := api.Type{Kind: api.TypeName, Name: "Any", Cap: api.Tag}
	if m.Pick(3) == 0 {
		t.Name = above[0][m.Pick(len(above[0]))]
	}
	return t
}

func (m ProgramMaker) method(e api.Entity, names, above map[int][]string) api.Method {
	out := api.Method{Kind: api.Fun, Name: []string{"a", "b", "c"}[m.Pick(3)], Cap: api.Iso + m.Pick(6), Partial: m.Pick(5) == 0}
	if m.Pick(5) == 0 {
		out.Kind = api.Be
	}
	if m.Pick(8) == 0 && (e.Kind == api.Class || e.Kind == api.Actor) {
		out.Kind = api.New
		out.Name = "new" + out.Name
	}
	if m.Generic && m.Pick(4) == 0 {
		out.Bounds = []api.Bound{{Name: "M", Type: m.bound(above)}}
		out.Bounds[0].Type.Cap = api.Tag
	}
	t := m.types(names, e.Bounds, out.Bounds)
	for i := range m.Pick(2) {
		out.Params = append(out.Params, api.Param{Name: "p" + strconv.Itoa(i), Type: t.Type(1)})
	}
	if m.Pick(4) > 0 {
		out.Result = t.Type(1)
	}
	if m.Pick(2) == 0 {
		out.Body = m.body(t, 2)
	}
	return out
}

// body returns an expression that mentions types, and calls methods with type arguments.
func (m ProgramMaker) body(t TypeMaker, depth int) api.Expr {
	call := api.Expr{Op: api.OpCall, Text: []string{"a", "b", "c"}[m.Pick(3)], Kids: []api.Expr{{Op: api.OpThis}}}
	switch {
	case depth == 0 || m.Pick(3) == 0:
		return api.Expr{Op: api.OpLocal, Text: "p0"}
	case m.Pick(3) == 0:
		return api.Expr{Op: api.OpSeq, Kids: []api.Expr{m.body(t, depth-1), m.body(t, depth-1)}}
	case m.Pick(3) == 0:
		return api.Expr{Op: api.OpVar, Text: "x", Types: []api.Type{t.Type(1)}, Kids: []api.Expr{m.body(t, depth-1)}}
	case m.Generic && m.Pick(2) == 0:
		call.Types = []api.Type{t.Type(1)}
	case m.Pick(2) == 0:
		call.Op, call.Text, call.Kids = api.OpNew, "new"+call.Text, nil
		call.Types = []api.Type{t.Named(1)}
		if m.Generic && m.Pick(2) == 0 {
			call.Types = append(call.Types, t.Type(1))
		}
	}
	return call
}
