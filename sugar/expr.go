package sugar

import (
	"slices"
	"strconv"

	"hackamore/api"
	"hackamore/convention"
	"hackamore/syntax"
)

// rules are the rules by kinds.
func rules() [syntax.Lambda + 1]func(*rewriter, *tree) api.Node {
	return [...]func(*rewriter, *tree) api.Node{
		syntax.Nothing: (*rewriter).same, syntax.IntLit: (*rewriter).same, syntax.FloatLit: (*rewriter).same, syntax.StringLit: (*rewriter).same,
		syntax.BoolLit: (*rewriter).same, syntax.Name: (*rewriter).name, syntax.This: (*rewriter).same, syntax.Seq: (*rewriter).seq,
		syntax.Decl: (*rewriter).decl, syntax.Assign: (*rewriter).assign, syntax.Dot: (*rewriter).same, syntax.Tilde: (*rewriter).notCalled,
		syntax.Chain: (*rewriter).notCalled, syntax.Call: (*rewriter).call, syntax.Qualify: (*rewriter).qualify, syntax.Tuple: (*rewriter).same,
		syntax.Array: (*rewriter).array, syntax.Unary: (*rewriter).unary, syntax.Binary: (*rewriter).binary, syntax.As: (*rewriter).as,
		syntax.Consume: (*rewriter).same, syntax.Recover: (*rewriter).recovered, syntax.If: (*rewriter).branches,
		syntax.Ifdef: (*rewriter).ifdef, syntax.While: (*rewriter).branches, syntax.Repeat: (*rewriter).repeat, syntax.For: (*rewriter).loop,
		syntax.With: (*rewriter).with, syntax.Match: (*rewriter).match, syntax.Case: (*rewriter).oneCase, syntax.Try: (*rewriter).try,
		syntax.Error: (*rewriter).same, syntax.Return: (*rewriter).same, syntax.Break: (*rewriter).same, syntax.Continue: (*rewriter).same,
		syntax.Object: (*rewriter).object, syntax.Lambda: (*rewriter).lambda,
	}
}

// same rewrites the parts alone.
func (r *rewriter) same(t *tree) api.Node { return node(t.kind, t.text, r.exprs(t.kids)...) }

func (r *rewriter) name(t *tree) api.Node {
	if r.meaning(t.text) == isField {
		return dot(this(), t.text)
	}
	return name(t.text)
}

func (r *rewriter) seq(t *tree) api.Node { return seq(r.exprs(t.kids)...) }

// decl rewrites a Decl that has no value.
func (r *rewriter) decl(t *tree) api.Node {
	n := r.declaration(t)
	r.declare(t.text, t.kids[1])
	return n
}

// declaration rewrites a Decl that is not in scope yet.
func (r *rewriter) declaration(t *tree) api.Node {
	return node(syntax.Decl, t.text, word(t.kids[0].text), r.typ(t.kids[1]))
}

func (r *rewriter) assign(t *tree) api.Node {
	left, right := t.kids[0], t.kids[1]
	switch left.kind {
	case syntax.Call:
		return r.update(t)
	case syntax.Tuple:
		return r.unpack(t)
	case syntax.Decl:
		n := r.declaration(left)
		n = assign(n, r.expr(right))
		r.declare(left.text, left.kids[1])
		return n
	}
	n := r.expr(left)
	return assign(n, r.expr(right))
}

// update rewrites an assignment to a call. The mark of the call that is assigned to is not one of the call of update.
func (r *rewriter) update(t *tree) api.Node {
	left := t.kids[0]
	if r.known(left.kids[0]) != nil {
		t.fail(ErrAssign)
	}
	head := r.expr(left.kids[0])
	args := r.unnamed(left.kids[2:])
	args = append(args, r.expr(t.kids[1]))
	return call(head, "update", args...)
}

// unnamed rewrites arguments, of which none may have a name.
func (r *rewriter) unnamed(l []*tree) []api.Node {
	var args []api.Node
	for _, a := range l {
		if a.kind == syntax.Named {
			a.fail(ErrArgs)
		}
		n := r.expr(a)
		args = append(args, n)
	}
	return args
}

// isDecls reports whether all parts of a Tuple are Decls, or such Tuples.
func isDecls(t *tree) bool {
	return !slices.ContainsFunc(t.kids, func(k *tree) bool {
		return k.kind != syntax.Decl && (k.kind != syntax.Tuple || !isDecls(k))
	})
}

// unpack rewrites an assignment to a Tuple of Decls.
func (r *rewriter) unpack(t *tree) api.Node {
	left := t.kids[0]
	if !isDecls(left) {
		t.fail(ErrAssign)
	}
	k := r.freshLocal()
	typ := r.tupleType(left)
	parts := r.parts(left, k)
	whole := let(k, typ, r.expr(t.kids[1]))
	r.declareParts(left)
	return seq(slices.Concat([]api.Node{whole}, parts, []api.Node{name(k)})...)
}

// tupleType returns the type of a Tuple of Decls.
func (r *rewriter) tupleType(t *tree) api.Node {
	n := node(syntax.TupleType, "")
	for _, k := range t.kids {
		var part api.Node
		if k.kind == syntax.Tuple {
			part = r.tupleType(k)
		} else {
			part = r.typ(k.kids[1])
		}
		n.Kids = append(n.Kids, part)
	}
	return n
}

// parts returns the assignments of the parts of a local to the Decls of a Tuple.
func (r *rewriter) parts(t *tree, local string) []api.Node {
	var l []api.Node
	for i, k := range t.kids {
		item := dot(name(local), "_"+strconv.Itoa(i+1))
		if k.kind == syntax.Decl {
			n := assign(r.declaration(k), item)
			l = append(l, n)
			continue
		}
		inner := r.freshLocal()
		whole := let(inner, r.tupleType(k), item)
		l = append(l, whole)
		l = append(l, r.parts(k, inner)...)
		l = append(l, name(inner))
	}
	return l
}

func (r *rewriter) declareParts(t *tree) {
	for _, k := range t.kids {
		if k.kind == syntax.Decl {
			r.declare(k.text, k.kids[1])
		} else {
			r.declareParts(k)
		}
	}
}

func (r *rewriter) array(t *tree) api.Node {
	k := r.freshLocal()
	typ := namedType("Array", "ref", r.typ(t.kids[0]))
	made := node(syntax.Qualify, "", name("Array"), r.typ(t.kids[0]))
	parts := []api.Node{let(k, typ, call(made, "create"))}
	for _, x := range t.kids[1:] {
		push := call(name(k), "push", r.expr(x))
		parts = append(parts, push)
	}
	return seq(append(parts, node(syntax.Consume, "", name(k)))...)
}

func (r *rewriter) unary(t *tree) api.Node {
	method := "neg"
	if t.text == "not" {
		method = "op_not"
	}
	return call(r.expr(t.kids[0]), method)
}

func (r *rewriter) binary(t *tree) api.Node {
	a := r.expr(t.kids[0])
	b := r.expr(t.kids[1])
	switch t.text {
	case "and":
		return node(syntax.If, "", a, b, boolean("false"))
	case "or":
		return node(syntax.If, "", a, boolean("true"), b)
	case "is", "isnt":
		return node(syntax.Binary, t.text, a, b)
	}
	method, partial := operator(t.text)
	return invoke(dot(a, method), partial, []api.Node{b})
}

// operator returns the method of an operator, and its partial mark.
func operator(text string) (method, partial string) {
	methods := map[string]string{
		"+": "add", "-": "sub", "*": "mul", "/": "div", "%": "rem", "<<": "shl", ">>": "shr", "xor": "op_xor",
		"==": "eq", "!=": "ne", "<": "lt", "<=": "le", ">": "gt", ">=": "ge",
	}
	if len(text) == 2 && text[1] == '?' {
		return methods[text[:1]] + "_partial", "?"
	}
	return methods[text], ""
}

func (r *rewriter) as(t *tree) api.Node {
	k := r.freshLocal()
	operand := r.expr(t.kids[0])
	pattern := node(syntax.Decl, k, word("let"), r.typ(t.kids[1]))
	taken := node(syntax.Case, "", pattern, nothing(), node(syntax.Consume, "", name(k)))
	return node(syntax.Match, "", operand, node(syntax.Error, ""), taken)
}

func (r *rewriter) recovered(t *tree) api.Node {
	return node(syntax.Recover, "", word(t.kids[0].text), r.body(t.kids[1]))
}

// branches rewrites an If or a While.
func (r *rewriter) branches(t *tree) (n api.Node) {
	r.inside(func() {
		condition := r.expr(t.kids[0])
		then := r.body(t.kids[1])
		n = node(t.kind, "", condition, then, r.body(t.kids[2]))
	})
	return n
}

func (r *rewriter) ifdef(t *tree) api.Node {
	holds, path, ok := convention.Holds(t.kids[0].node, r.flags)
	if !ok {
		panic(failure{slices.Concat(t.kids[0].path, path), api.ErrForm})
	}
	switch {
	case holds:
		return r.expr(t.kids[1])
	case t.kids[2].isNothing():
		return name("None")
	}
	return r.expr(t.kids[2])
}

func (r *rewriter) repeat(t *tree) (n api.Node) {
	k := r.freshLocal()
	r.inside(func() {
		body := r.body(t.kids[0])
		until := call(r.expr(t.kids[1]), "op_not")
		first := node(syntax.Decl, k, word("var"), namedType("Bool", ""))
		again := node(syntax.If, "", name(k), seq(assign(name(k), boolean("false")), boolean("true")), until)
		n = seq(assign(first, boolean("true")), node(syntax.While, "", again, body, nothing()))
	})
	return n
}

func (r *rewriter) loop(t *tree) (n api.Node) {
	k := r.freshLocal()
	r.inside(func() {
		typ := namedType("Iterator", "ref", r.typ(t.kids[0]))
		iterator := let(k, typ, r.expr(t.kids[1]))
		var body api.Node
		r.inside(func() {
			next := node(syntax.Try, "", invoke(dot(name(k), "next"), "?", nil), node(syntax.Break, ""), nothing())
			item := let(t.text, r.typ(t.kids[0]), next)
			r.declare(t.text, t.kids[0])
			body = seq(item, r.expr(t.kids[2]))
		})
		n = seq(iterator, node(syntax.While, "", call(name(k), "has_next"), body, r.body(t.kids[3])))
	})
	return n
}

func (r *rewriter) with(t *tree) api.Node {
	typ := r.typ(t.kids[0])
	first := let(t.text, typ, r.expr(t.kids[1]))
	r.declare(t.text, t.kids[0])
	body := r.body(t.kids[2])
	return seq(first, node(syntax.Try, "", body, node(syntax.Error, ""), call(name(t.text), "dispose")))
}

func (r *rewriter) match(t *tree) (n api.Node) {
	r.inside(func() {
		operand := r.expr(t.kids[0])
		other := r.body(t.kids[1])
		n = node(syntax.Match, "", operand, other)
		for _, k := range t.kids[2:] {
			taken := r.body(k)
			n.Kids = append(n.Kids, taken)
		}
	})
	return n
}

// oneCase rewrites a case, in a scope of its own.
func (r *rewriter) oneCase(t *tree) api.Node {
	pattern := t.kids[0]
	r.left--
	switch {
	case pattern.kind == syntax.Decl:
		return r.rest(t, r.decl(pattern), func() []api.Node { return nil })
	case pattern.kind == syntax.Tuple && isDecls(pattern):
		k := r.freshLocal()
		whole := node(syntax.Decl, k, word("let"), r.tupleType(pattern))
		return r.rest(t, whole, func() []api.Node {
			l := r.parts(pattern, k)
			r.declareParts(pattern)
			return l
		})
	}
	unit := pattern
	if pattern.kind == syntax.Qualify {
		unit = pattern.kids[0]
	}
	if unit.kind != syntax.Name || !convention.Upper(unit.text) {
		pattern.fail(ErrPattern)
	}
	k := r.freshLocal()
	typ := namedType(unit.text, "")
	for _, arg := range pattern.kids[min(1, len(pattern.kids)):] {
		a := r.typ(arg)
		typ.Kids = append(typ.Kids, a)
	}
	return r.rest(t, node(syntax.Decl, k, word("let"), typ), func() []api.Node { return nil })
}

// rest rewrites the guard and the body of a case, with some parts ahead of each.
func (r *rewriter) rest(t *tree, pattern api.Node, ahead func() []api.Node) api.Node {
	guard := nothing()
	if !t.kids[1].isNothing() {
		parts := ahead()
		guard = seq(append(parts, r.expr(t.kids[1]))...)
	}
	parts := ahead()
	body := seq(append(parts, r.expr(t.kids[2]))...)
	return node(syntax.Case, "", pattern, guard, body)
}

func (r *rewriter) try(t *tree) api.Node {
	body := r.body(t.kids[0])
	other := r.body(t.kids[1])
	return node(syntax.Try, "", body, other, r.body(t.kids[2]))
}
