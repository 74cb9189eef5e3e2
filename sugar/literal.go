package sugar

import (
	"slices"

	"hackamore/api"
	"hackamore/syntax"
)

// object rewrites an object literal.
func (r *rewriter) object(t *tree) api.Node {
	return r.literal(t, t.kids[0].text, t.kids[1], t.kids[2:], nil)
}

// lambda rewrites a lambda as the object literal with its method.
func (r *rewriter) lambda(t *tree) api.Node {
	c := t.kids[0].text
	apply := t.make(syntax.Method, "apply", wordTree(t, "fun"), wordTree(t, onlyVal(c)), t.make(syntax.Bounds, ""),
		t.kids[1], t.kids[2], t.kids[3], t.kids[4])
	return r.literal(t, c, t.make(syntax.Nothing, ""), []*tree{apply}, t.kids[5:])
}

// built is the entity of a literal as it grows: what is ahead of its own fields, and its constructor.
type built struct {
	fields  []api.Node
	params  []api.Node
	assigns []api.Node
	args    []api.Node
}

// take adds a field that a parameter of the constructor sets. Its type is rewritten for each.
func (b *built) take(r *rewriter, name string, typ *tree, value *tree) {
	field := node(syntax.Field, name, word("let"), r.typ(typ), nothing())
	b.fields = append(b.fields, field)
	param := node(syntax.Param, name, r.typ(typ), nothing())
	b.params = append(b.params, param)
	b.assigns = append(b.assigns, assign(dot(this(), name), node(syntax.Name, name)))
	arg := r.expr(value)
	b.args = append(b.args, arg)
}

// literal makes the entity of an object literal or a lambda, and returns the expression that makes an object of it.
func (r *rewriter) literal(t *tree, capability string, is *tree, members, captures []*tree) api.Node {
	kind := "class"
	if slices.ContainsFunc(members, func(m *tree) bool { return m.kind == syntax.Method && m.kids[0].text == "be" }) {
		kind = "actor"
	}
	e, add := r.add(kind)
	defer add()
	o := newOwner(e.name, members)
	for _, c := range captures {
		o.fields[c.text] = true
	}
	o.bounds = r.bounds
	o.literal = &literal{outer: r.context}
	var own, values, methods []api.Node
	r.within(&context{owner: o, bounds: o.bounds, byDefault: r.byDefault}, func() {
		e.is = r.typ(is)
		own, values, methods = r.literalMembers(members)
	})
	var b built
	for _, c := range captures {
		b.take(r, c.text, c.kids[0], c.kids[1])
	}
	for _, x := range o.literal.used {
		b.take(r, x.name, x.typ, t.make(syntax.Name, x.name))
	}
	body := seq(slices.Concat(b.assigns, values, []api.Node{this()})...)
	create := node(syntax.Method, "create", word("new"), word(""), node(syntax.Bounds, ""), node(syntax.Params, "", b.params...), nothing(), word(""), body)
	e.kids = slices.Concat(b.fields, own, []api.Node{create}, methods)
	return r.creation(e, capability, b.args)
}

// literalMembers rewrites all types of fields, then all values, then methods.
func (r *rewriter) literalMembers(members []*tree) (fields, values, methods []api.Node) {
	var valued []*tree
	for _, m := range members {
		if m.kind != syntax.Field {
			continue
		}
		f := r.field(m)
		fields = append(fields, f)
		if !m.kids[2].isNothing() {
			valued = append(valued, m)
		}
	}
	c := *r.context
	c.values = true
	r.within(&c, func() { values = r.fieldValues(valued) })
	for _, m := range members {
		if m.kind != syntax.Method {
			continue
		}
		if isNew(m) {
			m.fail(api.ErrForm)
		}
		n := r.method(m, nil)
		methods = append(methods, n)
	}
	return fields, values, methods
}

// creation returns the call of the constructor of an entity that was made.
func (r *rewriter) creation(e *entity, capability string, args []api.Node) api.Node {
	maker := name(e.name)
	if types := r.boundArgs(); len(types) > 0 {
		maker = node(syntax.Qualify, "", append([]api.Node{maker}, types...)...)
	}
	n := call(maker, "create", args...)
	if e.kind == "class" && capability != "" && capability != "ref" {
		return node(syntax.Recover, "", word(capability), n)
	}
	return n
}
