package sugar

import (
	"slices"

	"hackamore/api"
	"hackamore/convention"
	"hackamore/syntax"
)

// known returns the method of the callee of a known call, nil for other ones.
func (r *rewriter) known(callee *tree) *tree {
	if r.byDefault {
		return nil
	}
	switch callee.kind {
	case syntax.Name:
		if convention.Upper(callee.text) {
			return r.methodOf(callee.text, "create")
		}
		if r.meaning(callee.text) == isUnknown {
			return r.owner.methods[callee.text]
		}
	case syntax.Dot:
		return r.knownAt(callee.kids[0], callee.text)
	}
	return nil
}

// knownAt returns the method that is known behind this, or behind the name of an entity.
func (r *rewriter) knownAt(receiver *tree, method string) *tree {
	switch {
	case r.byDefault:
	case receiver.kind == syntax.This && !r.owner.fields[method]:
		return r.owner.methods[method]
	case receiver.kind == syntax.Name && convention.Upper(receiver.text):
		return r.methodOf(receiver.text, method)
	}
	return nil
}

// methodOf returns a method of an entity of the module.
func (r *rewriter) methodOf(entity, method string) *tree {
	if o := r.entities[entity]; o != nil {
		return o.methods[method]
	}
	return nil
}

// places returns the index of the parameter for each argument of a call of a known method.
func places(call *tree, method *tree, args []*tree) []int {
	params := method.kids[3].kids
	taken := make([]bool, len(params))
	var l []int
	for i, a := range args {
		if a.kind == syntax.Named {
			i = slices.IndexFunc(params, func(p *tree) bool { return p.text == a.text })
		}
		if i < 0 || i >= len(params) || taken[i] {
			call.fail(ErrArgs)
		}
		taken[i] = true
		l = append(l, i)
	}
	return l
}

// hasNamed reports whether an argument has a name.
func hasNamed(args []*tree) bool {
	return slices.ContainsFunc(args, func(a *tree) bool { return a.kind == syntax.Named })
}

// value is what an argument gives.
func value(arg *tree) *tree {
	if arg.kind == syntax.Named {
		return arg.kids[0]
	}
	return arg
}

// arranged are the arguments of a call of a known method, one place for each parameter; those that are missing have nil.
func arranged(call, method *tree, args []*tree) (at []int, missing []*tree) {
	at = places(call, method, args)
	for i, p := range method.kids[3].kids {
		switch {
		case slices.Contains(at, i):
			missing = append(missing, nil)
		case p.kids[1].isNothing():
			call.fail(ErrArgs)
		default:
			missing = append(missing, p.kids[1])
		}
	}
	return at, missing
}

// arguments checks the arguments of a call, and returns what rewrites them.
func (r *rewriter) arguments(call, method *tree, args []*tree) func() []api.Node {
	if method == nil {
		if hasNamed(args) {
			call.fail(ErrArgs)
		}
		return func() []api.Node { return r.exprs(args) }
	}
	at, missing := arranged(call, method, args)
	return func() []api.Node {
		l := make([]api.Node, len(missing))
		for i, a := range args {
			l[at[i]] = r.expr(value(a))
		}
		for i, m := range missing {
			if m != nil {
				l[i] = r.defaultValue(m)
			}
		}
		return l
	}
}

// defaultValue rewrites a default value at a call: no local and no field is in scope, no method is known.
func (r *rewriter) defaultValue(t *tree) (n api.Node) {
	if r.isOver() && r.told[t] {
		return nothing()
	}
	bare := &owner{name: r.owner.name, bounds: r.owner.bounds}
	c := &context{owner: bare, bounds: r.bounds, scope: &scope{types: map[string]*tree{}}, byDefault: true}
	r.within(c, func() { n = r.expr(t) })
	r.told[t] = true
	return n
}

// call rewrites a call.
func (r *rewriter) call(t *tree) api.Node {
	callee, args := t.kids[0], t.kids[2:]
	switch callee.kind {
	case syntax.Chain:
		return r.chain(t)
	case syntax.Tilde:
		return r.partial(t)
	}
	rewrite := r.arguments(t, r.known(callee), args)
	head := r.callee(callee)
	return invoke(head, t.kids[1].text, rewrite())
}

// callee rewrites a callee to a Dot, or a Qualify of one.
func (r *rewriter) callee(t *tree) api.Node {
	switch t.kind {
	case syntax.Dot:
		return r.expr(t)
	case syntax.Name:
		if convention.Upper(t.text) {
			return dot(r.expr(t), "create")
		}
		if r.meaning(t.text) == isUnknown {
			return dot(this(), t.text)
		}
	case syntax.Qualify:
		of := t.kids[0]
		switch {
		case of.kind == syntax.Name && convention.Upper(of.text):
			return dot(r.expr(t), "create")
		case of.kind == syntax.Dot, of.kind == syntax.Name && r.meaning(of.text) == isUnknown:
			return r.expr(t)
		}
	}
	return dot(r.expr(t), "apply")
}

// qualify rewrites a Qualify; one of a lower name that is no local and no field is one of this.
func (r *rewriter) qualify(t *tree) api.Node {
	of := t.kids[0]
	var head api.Node
	if of.kind == syntax.Name && !convention.Upper(of.text) && r.meaning(of.text) == isUnknown {
		head = dot(this(), of.text)
	} else {
		head = r.expr(of)
	}
	n := node(syntax.Qualify, "", head)
	for _, k := range t.kids[1:] {
		arg := r.typ(k)
		n.Kids = append(n.Kids, arg)
	}
	return n
}

func isChain(t *tree) bool { return t.kind == syntax.Call && t.kids[0].kind == syntax.Chain }

// chain rewrites the call of a Chain. The parts of a chain that is its receiver stand ahead of it.
func (r *rewriter) chain(t *tree) api.Node {
	c := t.kids[0]
	receiver := c.kids[0]
	var parts []api.Node
	var last api.Node
	inner := isChain(receiver)
	if inner {
		r.left--
		parts = r.chain(receiver).Kids
		last, parts = parts[len(parts)-1], parts[:len(parts)-1]
	}
	var method *tree
	if receiver.kind == syntax.This || last.Kind == syntax.This {
		method = r.knownAt(t.make(syntax.This, ""), c.text)
	}
	rewrite := r.arguments(t, method, t.kids[2:])
	if !inner {
		if receiver.kind != syntax.This && (receiver.kind != syntax.Name || r.meaning(receiver.text) != isLocal) {
			c.fail(ErrChain)
		}
		last = r.expr(receiver)
	}
	called := invoke(dot(last, c.text), t.kids[1].text, rewrite())
	return seq(append(slices.Clone(parts), called, last)...)
}

// notCalled refuses a Chain or a Tilde that is no callee.
func (r *rewriter) notCalled(t *tree) api.Node {
	t.fail(ErrChain)
	return api.Node{}
}

// partial rewrites a partial application as the lambda that takes the other arguments.
func (r *rewriter) partial(t *tree) api.Node {
	tilde, args := t.kids[0], t.kids[2:]
	receiver := tilde.kids[0]
	method := r.knownAt(receiver, tilde.text)
	if method == nil || isNew(method) {
		if hasNamed(args) {
			t.fail(ErrArgs)
		}
		tilde.fail(ErrChain)
	}
	at := places(t, method, args)
	params := method.kids[3].kids
	locals := make([]string, len(params))
	var captures []*tree
	if receiver.kind == syntax.This {
		captures = append(captures, t.make(syntax.Capture, "_this", r.ownType(t, method), receiver))
		receiver = t.make(syntax.Name, "_this")
	}
	for i, a := range args {
		locals[at[i]] = r.freshLocal()
		captures = append(captures, t.make(syntax.Capture, locals[at[i]], params[at[i]].kids[0], value(a)))
	}
	others := t.make(syntax.Params, "")
	body := t.make(syntax.Call, "", t.make(syntax.Dot, tilde.text, receiver), wordTree(t, ""))
	for i, p := range params {
		if locals[i] == "" {
			locals[i] = p.text
			others.kids = append(others.kids, t.make(syntax.Param, p.text, p.kids[0], t.make(syntax.Nothing, "")))
		}
		body.kids = append(body.kids, t.make(syntax.Name, locals[i]))
	}
	kids := []*tree{wordTree(t, ""), others, method.kids[4], method.kids[5], body}
	return r.expr(t.make(syntax.Lambda, "", append(kids, captures...)...))
}

// ownType is the type of the entity with its own Bounds as arguments, and the capability of a method.
func (r *rewriter) ownType(t, method *tree) *tree {
	c := method.kids[1].text
	switch {
	case method.kids[0].text == "be":
		c = "tag"
	case c == "":
		c = "box"
	}
	n := t.make(syntax.NamedType, r.owner.name, wordTree(t, c), wordTree(t, ""))
	for _, b := range r.owner.bounds {
		for _, name := range b.names {
			n.kids = append(n.kids, t.make(syntax.NamedType, name, wordTree(t, ""), wordTree(t, "")))
		}
	}
	return n
}
