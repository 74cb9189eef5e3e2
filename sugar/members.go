package sugar

import (
	"slices"

	"hackamore/api"
	"hackamore/syntax"
)

// entity rewrites an entity of the module.
func (r *rewriter) entity(t *tree) (n api.Node) {
	o := newOwner(t.text, t.kids[4:])
	own := newBounds(t.kids[2])
	o.bounds = []*bounds{own}
	n = node(syntax.Entity, t.text, word(t.kids[0].text), word(t.kids[1].text))
	r.within(&context{owner: o, bounds: o.bounds}, func() {
		all := r.rewriteBounds(t.kids[2], own)
		is := r.typ(t.kids[3])
		n.Kids = append(n.Kids, all, is)
		n.Kids = append(n.Kids, r.members(t)...)
	})
	return n
}

func isNew(m *tree) bool { return m.kind == syntax.Method && m.kids[0].text == "new" }

// lacksCreate reports whether an entity gets a constructor.
func lacksCreate(t *tree) bool {
	if kind := t.kids[0].text; kind != "class" && kind != "actor" {
		return false
	}
	return !slices.ContainsFunc(t.kids[4:], func(m *tree) bool {
		return isNew(m) || m.kind == syntax.Field && m.kids[2].isNothing()
	})
}

// members rewrites the members of an entity in order, and puts fields ahead of methods.
func (r *rewriter) members(t *tree) []api.Node {
	var fields, methods []api.Node
	var valued []*tree
	for _, m := range t.kids[4:] {
		if m.kind == syntax.Field && !m.kids[2].isNothing() {
			valued = append(valued, m)
		}
	}
	lacks := lacksCreate(t)
	create := func() {
		made := t.make(syntax.Method, "create", wordTree(t, "new"), wordTree(t, ""), t.make(syntax.Bounds, ""), t.make(syntax.Params, ""),
			t.make(syntax.Nothing, ""), wordTree(t, ""), t.make(syntax.This, ""))
		m := r.method(made, valued)
		methods = append(methods, m)
		lacks = false
	}
	for _, m := range t.kids[4:] {
		if m.kind == syntax.Field {
			f := r.field(m)
			fields = append(fields, f)
			continue
		}
		if lacks {
			create()
		}
		n := r.method(m, valued)
		methods = append(methods, n)
	}
	if lacks {
		create()
	}
	return append(fields, methods...)
}

func wordTree(t *tree, text string) *tree { return t.make(syntax.Word, text) }

// field rewrites a field without its value.
func (r *rewriter) field(t *tree) api.Node {
	return node(syntax.Field, t.text, word(t.kids[0].text), r.typ(t.kids[1]), nothing())
}

// method rewrites a method; if it is a constructor, the fields with values are assigned ahead of its body.
func (r *rewriter) method(t *tree, valued []*tree) (n api.Node) {
	own := newBounds(t.kids[2])
	c := *r.context
	c.bounds = append(slices.Clone(c.bounds), own)
	c.scope = &scope{types: map[string]*tree{}}
	n = node(syntax.Method, t.text, word(t.kids[0].text), word(t.kids[1].text))
	r.within(&c, func() {
		all := r.rewriteBounds(t.kids[2], own)
		params := r.params(t.kids[3])
		result := r.typ(t.kids[4])
		n.Kids = append(n.Kids, all, params, result, word(t.kids[5].text), r.methodBody(t, valued))
	})
	return n
}

// params rewrites parameters without their default values, and puts them in scope.
func (r *rewriter) params(t *tree) api.Node {
	n := node(syntax.Params, "")
	for _, p := range t.kids {
		k := node(syntax.Param, p.text, r.typ(p.kids[0]), nothing())
		n.Kids = append(n.Kids, k)
		r.declare(p.text, p.kids[0])
	}
	return n
}

func (r *rewriter) methodBody(t *tree, valued []*tree) api.Node {
	body := t.kids[6]
	if !isNew(t) || len(valued) == 0 {
		return r.expr(body)
	}
	parts := r.fieldValues(valued)
	if body.isNothing() {
		return seq(append(parts, this())...)
	}
	return seq(append(parts, r.expr(body))...)
}

// fieldValues returns the assignments of the values of fields.
func (r *rewriter) fieldValues(valued []*tree) []api.Node {
	var parts []api.Node
	c := *r.context
	for _, f := range valued {
		if r.isOver() && r.told[f] {
			continue
		}
		c.scope = &scope{types: map[string]*tree{}}
		r.within(&c, func() {
			value := r.expr(f.kids[2])
			parts = append(parts, assign(dot(this(), f.text), value))
		})
		r.told[f] = true
	}
	return parts
}
