package names

import (
	"slices"

	"hackamore/api"
	"hackamore/syntax"
)

// refuse refuses what is wrong in entities and aliases.
func (r *resolver) refuse() {
	r.refusing = true
	for _, m := range r.modules {
		r.entities(m)
	}
	r.refusing = false
	for _, m := range r.modules {
		for _, d := range m.all {
			d.typ = nil
		}
	}
}

// program returns all entities, those of the builtin package first.
func (r *resolver) program() []api.Entity {
	p := r.entities(r.builtin[0])
	p = slices.AppendSeq(p, numbers())
	p = append(p, r.entities(r.builtin[1])...)
	for _, m := range r.modules {
		p = append(p, r.entities(m)...)
	}
	return p
}

// entities returns the entities of a module without its aliases.
func (r *resolver) entities(m *module) []api.Entity {
	var l []api.Entity
	for _, d := range m.all {
		r.place = &place{module: m, params: set(d.bounds), isAlias: d.kind == 0}
		switch {
		case d.kind == 0 && r.refusing:
			r.bounds(d.tree.kids[2])
			r.typ(d.tree.kids[3])
			continue
		case d.kind == 0:
			continue
		}
		e := r.entity(d)
		l = append(l, e)
	}
	return l
}

func (r *resolver) bounds(t *tree) []api.Bound {
	var l []api.Bound
	for _, b := range t.kids {
		x := api.Bound{Name: b.Text, Type: r.constraint(b.kids[0])}
		l = append(l, x)
	}
	return l
}

func (r *resolver) entity(d *declared) api.Entity {
	e := api.Entity{Kind: d.kind, Name: d.name, Cap: d.cap}
	e.Bounds = r.bounds(d.tree.kids[2])
	e.Provides = r.provides(d.tree.kids[3])
	for _, t := range d.tree.kids[4:] {
		if t.Kind == syntax.Field {
			f := api.Field{Name: t.Text, Let: t.kids[0].Text == "let", Type: r.typ(t.kids[1])}
			e.Fields = append(e.Fields, f)
			continue
		}
		m := r.method(d, t)
		e.Methods = append(e.Methods, m)
	}
	return e
}

// provides returns the types that an entity provides.
func (r *resolver) provides(t *tree) []api.Type {
	if t.Kind == syntax.Nothing {
		return nil
	}
	x := r.typ(t)
	if x.Kind == api.TypeBoth {
		return x.Args
	}
	return []api.Type{x}
}

func (r *resolver) method(d *declared, t *tree) api.Method {
	outer := r.place
	own := slices.Clone(d.bounds)
	for _, b := range t.kids[2].kids {
		own = append(own, b.Text)
	}
	r.place = &place{module: outer.module, params: set(own), locals: newLocals()}
	m := api.Method{Kind: methodKind(t.kids[0].Text), Name: t.Text, Partial: t.kids[5].Text == "?"}
	m.Cap = methodCap(d, m.Kind, capability(t.kids[1].Text))
	m.Bounds = r.bounds(t.kids[2])
	for _, k := range t.kids[3].kids {
		p := api.Param{Name: k.Text, Type: r.typ(k.kids[0])}
		m.Params = append(m.Params, p)
		r.locals.declare(r.locals.unique(k.Text), k.Text)
	}
	m.Result = r.result(d, m, t.kids[4])
	if t.kids[6].Kind != syntax.Nothing {
		m.Body = r.expr(t.kids[6])
	}
	r.place = outer
	return m
}

func methodKind(word string) int {
	return slices.Index([]string{"", "new", "fun", "be"}, word)
}

// methodCap returns the capability of a method for which one, or none, is written.
func methodCap(d *declared, kind, written int) int {
	switch {
	case kind == api.Be:
		return api.Tag
	case written != api.CapNone:
		return written
	case kind == api.Fun:
		return api.Box
	}
	return defaultCap(d.kind)
}

// result returns the result of a method, also of one for which none is written.
func (r *resolver) result(d *declared, m api.Method, t *tree) api.Type {
	if t.Kind != syntax.Nothing {
		return r.typ(t)
	}
	if m.Kind != api.New {
		return named("None", api.Val)
	}
	x := api.Type{Kind: api.TypeName, Name: d.name, Cap: m.Cap, Mark: api.Ephemeral}
	for _, b := range d.bounds {
		x.Args = append(x.Args, api.Type{Kind: api.TypeParam, Name: b})
	}
	return x
}
