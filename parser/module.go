package parser

import (
	"hackamore/api"
	"hackamore/syntax"
	"hackamore/token"
)

func (r *reader) module() api.Node {
	n := node(syntax.Module, "")
	for r.take("use") {
		u := r.use()
		n.Kids = append(n.Kids, u)
	}
	for !r.done() {
		e := r.entity()
		n.Kids = append(n.Kids, e)
	}
	return n
}

func (r *reader) use() api.Node {
	if r.kind() != token.String {
		r.fail(ErrToken)
	}
	n := node(syntax.Use, r.tokens[r.next].Text, nothing())
	if syntax.Check(n) != api.OK {
		r.fail(api.ErrForm)
	}
	r.next++
	n.Kids[0] = r.maybe("if", (*reader).infix)
	return n
}

func (r *reader) entity() api.Node {
	kind := r.oneOf("class", "actor", "primitive", "trait", "interface", "type")
	if kind == "" {
		r.fail(ErrToken)
	}
	c := r.capability()
	name := r.name()
	bounds := r.bounds()
	if kind == "type" {
		return node(syntax.Entity, name, word(kind), c, bounds, r.behind("is", (*reader).typ))
	}
	n := node(syntax.Entity, name, word(kind), c, bounds, r.maybe("is", (*reader).typ))
	n.Kids = append(n.Kids, r.members()...)
	return n
}

// members reads fields, and then methods.
func (r *reader) members() []api.Node {
	var l []api.Node
	for r.is("var") || r.is("let") {
		f := r.field()
		l = append(l, f)
	}
	for r.is("new") || r.is("fun") || r.is("be") {
		m := r.method()
		l = append(l, m)
	}
	return l
}

// capability reads a capability, or none.
func (r *reader) capability() api.Node {
	return word(r.oneOf("iso", "trn", "ref", "val", "box", "tag"))
}

func (r *reader) bounds() api.Node {
	if !r.take("[") {
		return node(syntax.Bounds, "")
	}
	l := list(r, ",", (*reader).bound)
	r.want("]")
	return node(syntax.Bounds, "", l...)
}

func (r *reader) bound() api.Node {
	name := r.name()
	return node(syntax.Bound, name, r.maybe(":", (*reader).typ))
}

func (r *reader) field() api.Node {
	kept := word(r.text())
	name := r.name()
	t := r.behind(":", (*reader).typ)
	return node(syntax.Field, name, kept, t, r.maybe("=", (*reader).infix))
}

func (r *reader) method() api.Node {
	kind := word(r.text())
	c := r.capability()
	name := r.name()
	bounds := r.bounds()
	params := r.params()
	result := r.maybe(":", (*reader).typ)
	partial := r.partial()
	return node(syntax.Method, name, kind, c, bounds, params, result, partial, r.maybe("=>", (*reader).seq))
}

func (r *reader) partial() api.Node { return word(r.oneOf("?")) }

func (r *reader) params() api.Node {
	r.want("(")
	if r.take(")") {
		return node(syntax.Params, "")
	}
	l := list(r, ",", (*reader).param)
	r.want(")")
	return node(syntax.Params, "", l...)
}

func (r *reader) param() api.Node {
	name := r.name()
	t := r.behind(":", (*reader).typ)
	return node(syntax.Param, name, t, r.maybe("=", (*reader).infix))
}

// typ reads a type without a union or an intersection that has no brackets.
func (r *reader) typ() api.Node {
	left := r.atype()
	if !r.take("->") {
		return left
	}
	return node(syntax.ArrowType, "", left, r.typ())
}

func (r *reader) atype() api.Node {
	switch {
	case r.take("this"):
		return node(syntax.ThisType, "")
	case r.take("("):
		l := list(r, ",", (*reader).inner)
		r.want(")")
		if len(l) == 1 {
			return l[0]
		}
		return node(syntax.TupleType, "", l...)
	case r.take("{"):
		return r.lambdaType()
	}
	return r.namedType()
}

// inner reads a type, a union or an intersection.
func (r *reader) inner() api.Node {
	first := r.typ()
	op, kind, other := "|", syntax.UnionType, "&"
	if r.is("&") {
		op, kind, other = "&", syntax.BothType, "|"
	}
	l := []api.Node{first}
	for r.take(op) {
		t := r.typ()
		l = append(l, t)
	}
	if len(l) == 1 {
		return first
	}
	if r.is(other) {
		r.fail(ErrMix)
	}
	return node(kind, "", l...)
}

func (r *reader) namedType() api.Node {
	name := r.name()
	if r.onLine() && r.take(".") {
		name += "."
		name += r.name()
	}
	var args []api.Node
	if r.onLine() {
		args = r.typeArgs()
	}
	c := word(r.oneOf("iso", "trn", "ref", "val", "box", "tag", "#read", "#send", "#share", "#alias", "#any"))
	kids := []api.Node{c, r.mark()}
	return node(syntax.NamedType, name, append(kids, args...)...)
}

// typeArgs reads type arguments, if they are there.
func (r *reader) typeArgs() []api.Node {
	if !r.take("[") {
		return nil
	}
	l := list(r, ",", (*reader).typ)
	r.want("]")
	return l
}

func (r *reader) mark() api.Node { return word(r.oneOf("^", "!")) }

func (r *reader) lambdaType() api.Node {
	r.want("(")
	var params []api.Node
	if !r.is(")") {
		params = list(r, ",", (*reader).typ)
	}
	r.want(")")
	result := r.maybe(":", (*reader).typ)
	partial := r.partial()
	r.want("}")
	c := r.capability()
	kids := []api.Node{c, r.mark(), partial, result}
	return node(syntax.LambdaType, "", append(kids, params...)...)
}
