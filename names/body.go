package names

import (
	"math"
	"strconv"
	"strings"

	"hackamore/api"
	"hackamore/convention"
	"hackamore/num"
	"hackamore/syntax"
)

// scope has the unique names of the locals of a body; outer is that of the body around it.
type scope struct {
	names map[string]string
	outer *scope
}

// locals are those of a method: which are in scope, and how often each name was declared.
type locals struct {
	*scope
	declared map[string]int
}

func newLocals() *locals {
	return &locals{&scope{names: map[string]string{}}, map[string]int{}}
}

// unique returns the name of a further local.
func (l *locals) unique(name string) string {
	l.declared[name]++
	if n := l.declared[name]; n > 1 {
		return name + "." + strconv.Itoa(n)
	}
	return name
}

// declare puts a local in scope.
func (l *locals) declare(unique, name string) { l.names[name] = unique }

func (l *locals) find(name string) (string, bool) {
	for s := l.scope; s != nil; s = s.outer {
		if unique, ok := s.names[name]; ok {
			return unique, true
		}
	}
	return "", false
}

// inside walks in a scope of its own.
func (l *locals) inside(f func()) {
	outer := l.scope
	l.scope = &scope{map[string]string{}, outer}
	f()
	l.scope = outer
}

// rules are what becomes of the kinds of expressions.
func rules() map[int]func(*resolver, *tree) api.Expr {
	return map[int]func(*resolver, *tree) api.Expr{
		syntax.IntLit: (*resolver).number, syntax.FloatLit: (*resolver).number, syntax.StringLit: (*resolver).text,
		syntax.BoolLit: (*resolver).text, syntax.Name: (*resolver).name, syntax.This: (*resolver).simple, syntax.Seq: (*resolver).simple,
		syntax.Decl: (*resolver).decl, syntax.Assign: (*resolver).assign, syntax.Dot: (*resolver).dot, syntax.Call: (*resolver).call,
		syntax.Qualify: (*resolver).qualify, syntax.Tuple: (*resolver).simple, syntax.Binary: (*resolver).binary,
		syntax.Consume: (*resolver).consume, syntax.Recover: (*resolver).recovered, syntax.If: (*resolver).branches,
		syntax.While: (*resolver).branches, syntax.Match: (*resolver).match, syntax.Case: (*resolver).oneCase, syntax.Try: (*resolver).try,
		syntax.Error: (*resolver).simple, syntax.Return: (*resolver).returned, syntax.Break: (*resolver).simple, syntax.Continue: (*resolver).simple,
	}
}

// expr returns the expression of a tree.
func (r *resolver) expr(t *tree) api.Expr { return r.rules[t.Kind](r, t) }

func (r *resolver) exprs(l []*tree) []api.Expr {
	var out []api.Expr
	for _, t := range l {
		x := r.expr(t)
		out = append(out, x)
	}
	return out
}

// body returns the expression of a tree that is a body, None for a Nothing.
func (r *resolver) body(t *tree) (x api.Expr) {
	if t.Kind == syntax.Nothing {
		return none()
	}
	r.locals.inside(func() { x = r.expr(t) })
	return x
}

func none() api.Expr { return unit(named("None", api.Val)) }

func unit(t api.Type) api.Expr { return api.Expr{Op: api.OpUnit, Types: []api.Type{t}} }

func literal(typ, text string) api.Expr {
	return api.Expr{Op: api.OpLit, Text: text, Types: []api.Type{named(typ, api.Val)}}
}

// simple returns the operation of a kind that has nothing but Kids.
func (r *resolver) simple(t *tree) api.Expr {
	ops := map[int]int{
		syntax.This: api.OpThis, syntax.Seq: api.OpSeq, syntax.Tuple: api.OpTuple, syntax.Error: api.OpError,
		syntax.Break: api.OpBreak, syntax.Continue: api.OpContinue,
	}
	return api.Expr{Op: ops[t.Kind], Kids: r.exprs(t.kids)}
}

// number returns a literal that is that of no written type.
func (r *resolver) number(t *tree) api.Expr {
	if t.Kind == syntax.FloatLit {
		return r.numberOf("F64", t)
	}
	return r.numberOf("USize", t)
}

func (r *resolver) numberOf(typ string, t *tree) api.Expr {
	if _, e := num.Parse(typ, t.Text); e != api.OK {
		r.fail(t, ErrLiteral)
	}
	return literal(typ, t.Text)
}

func (r *resolver) text(t *tree) api.Expr {
	if t.Kind == syntax.BoolLit {
		return literal("Bool", t.Text)
	}
	return literal("String", t.Text)
}

// local returns the unique name of a local.
func (r *resolver) local(t *tree) string {
	unique, ok := r.locals.find(t.Text)
	if !ok {
		r.fail(t, api.ErrScope)
	}
	return unique
}

func isUpper(t *tree) bool { return t.Kind == syntax.Name && convention.Upper(t.Text) }

func (r *resolver) name(t *tree) api.Expr {
	if !isUpper(t) {
		return api.Expr{Op: api.OpLocal, Text: r.local(t)}
	}
	if r.params[t.Text] {
		r.fail(t, ErrKind)
	}
	d := r.find(t, t.Text)
	if d.kind != api.Primitive {
		r.fail(t, ErrKind)
	}
	return unit(r.applied(d, t, nil))
}

// applied returns the type that an entity is with type arguments.
func (r *resolver) applied(d *declared, name *tree, args []*tree) api.Type {
	if len(args) != len(d.bounds) {
		r.fail(name, ErrArity)
	}
	return api.Type{Kind: api.TypeName, Name: d.name, Cap: d.cap, Args: r.types(args)}
}

func (r *resolver) decl(t *tree) api.Expr {
	x := r.declaration(t)
	r.locals.declare(x.Text, t.Text)
	return x
}

// declaration returns the declaration of a local that is not in scope yet.
func (r *resolver) declaration(t *tree) api.Expr {
	x := api.Expr{Op: api.OpVar, Text: r.locals.unique(t.Text)}
	if t.kids[0].Text == "let" {
		x.Op = api.OpLet
	}
	x.Types = []api.Type{r.typ(t.kids[1])}
	return x
}

func (r *resolver) assign(t *tree) api.Expr {
	left := t.kids[0]
	switch {
	case left.Kind == syntax.Decl:
		x := r.declaration(left)
		x.Kids = []api.Expr{r.expr(t.kids[1])}
		r.locals.declare(x.Text, left.Text)
		return x
	case isUpper(left):
		r.fail(left, ErrKind)
	case left.Kind == syntax.Name:
		x := api.Expr{Op: api.OpAssign, Text: r.local(left)}
		x.Kids = []api.Expr{r.expr(t.kids[1])}
		return x
	}
	if _, ok := item(left.Text); ok {
		r.fail(left, ErrKind)
	}
	x := r.dot(left)
	x.Op = api.OpSet
	value := r.expr(t.kids[1])
	x.Kids = append(x.Kids, value)
	return x
}

// item returns the index that a name `_1`, `_2` and so on means.
func item(name string) (string, bool) {
	digits, ok := strings.CutPrefix(name, "_")
	if !ok || strings.HasPrefix(digits, "0") || strings.Trim(digits, "0123456789") != "" {
		return "", false
	}
	n, err := strconv.ParseUint(digits, 10, 64)
	return strconv.FormatUint(n-1, 10), err == nil && n <= math.MaxInt
}

// refuseUpper refuses a Dot or a Qualify that is not called, and is of the name of an entity.
func (r *resolver) refuseUpper(t, of *tree) {
	for of.Kind == syntax.Qualify || of.Kind == syntax.Dot && t.Kind == syntax.Qualify {
		of = of.kids[0]
	}
	if !isUpper(of) {
		return
	}
	if !r.params[of.Text] {
		r.find(of, of.Text)
	}
	r.fail(t, ErrKind)
}

func (r *resolver) dot(t *tree) api.Expr {
	r.refuseUpper(t, t.kids[0])
	x := api.Expr{Op: api.OpGet, Text: t.Text, Kids: r.exprs(t.kids)}
	if index, ok := item(t.Text); ok {
		x.Op, x.Text = api.OpItem, index
	}
	return x
}

// qualify refuses a Qualify that is not called.
func (r *resolver) qualify(t *tree) api.Expr {
	r.refuseUpper(t, t.kids[0])
	r.fail(t, ErrKind)
	return api.Expr{}
}

// callee is a Dot, perhaps with type arguments for the method, of a name, perhaps with type arguments, or another receiver.
type callee struct {
	method   string
	types    []*tree // of the method
	receiver *tree
	name     *tree   // an upper one, or nil
	args     []*tree // of the name
}

func calleeOf(t *tree) callee {
	var c callee
	if t.Kind == syntax.Qualify {
		c.types = t.kids[1:]
		t = t.kids[0]
	}
	c.method, c.receiver = t.Text, t.kids[0]
	switch of := c.receiver; {
	case isUpper(of):
		c.name = of
	case of.Kind == syntax.Qualify && isUpper(of.kids[0]):
		c.name, c.args = of.kids[0], of.kids[1:]
	}
	return c
}

func (r *resolver) call(t *tree) api.Expr {
	c := calleeOf(t.kids[0])
	if c.name == nil {
		kids := []api.Expr{r.expr(c.receiver)}
		return r.callOf(c, kids, t.kids[2:])
	}
	if r.params[c.name.Text] {
		r.fail(c.name, ErrKind)
	}
	d := r.find(c.name, c.name.Text)
	switch {
	case d.kind == 0 || d.kind == api.Trait || d.kind == api.Interface:
		r.fail(c.name, ErrKind)
	case d.kind == api.Primitive && !d.news[c.method]:
		kids := []api.Expr{unit(r.applied(d, c.name, c.args))}
		return r.callOf(c, kids, t.kids[2:])
	case !d.news[c.method]:
		r.fail(c.name, api.ErrNone)
	}
	if isLiteral(t, c, d) {
		return r.numberOf(d.name, t.kids[2])
	}
	types := []api.Type{r.applied(d, c.name, c.args)}
	types = append(types, r.types(c.types)...)
	return api.Expr{Op: api.OpNew, Text: c.method, Types: types, Kids: r.exprs(t.kids[2:])}
}

// callOf returns the call of a method of a receiver, which is the first of kids.
func (r *resolver) callOf(c callee, kids []api.Expr, args []*tree) api.Expr {
	types := r.types(c.types)
	return api.Expr{Op: api.OpCall, Text: c.method, Types: types, Kids: append(kids, r.exprs(args)...)}
}

// isLiteral reports whether a call makes a number of a literal that stands in it.
func isLiteral(t *tree, c callee, d *declared) bool {
	if c.method != "create" || t.kids[0].Kind != syntax.Dot || c.receiver.Kind != syntax.Name || !isNumber(d.name) || len(t.kids) != 3 {
		return false
	}
	arg := t.kids[2].Kind
	return arg == syntax.IntLit || arg == syntax.FloatLit && (d.name == "F32" || d.name == "F64")
}

func (r *resolver) binary(t *tree) api.Expr {
	x := api.Expr{Op: api.OpIs, Kids: r.exprs(t.kids)}
	if t.Text == "isnt" {
		return api.Expr{Op: api.OpIf, Kids: []api.Expr{x, literal("Bool", "false"), literal("Bool", "true")}}
	}
	return x
}

func (r *resolver) consume(t *tree) api.Expr {
	of := t.kids[0]
	if of.Kind != syntax.Name || isUpper(of) {
		r.fail(t, ErrKind)
	}
	return api.Expr{Op: api.OpConsume, Text: r.local(of)}
}

func (r *resolver) recovered(t *tree) api.Expr {
	c := capability(t.kids[0].Text)
	if c == api.CapNone {
		c = api.Iso
	}
	return api.Expr{Op: api.OpRecover, Types: []api.Type{{Kind: api.TypeSelf, Cap: c}}, Kids: []api.Expr{r.body(t.kids[1])}}
}

// branches returns an If or a While.
func (r *resolver) branches(t *tree) api.Expr {
	x := api.Expr{Op: api.OpIf}
	if t.Kind == syntax.While {
		x.Op = api.OpWhile
	}
	r.locals.inside(func() {
		condition := r.expr(t.kids[0])
		first := r.body(t.kids[1])
		x.Kids = []api.Expr{condition, first, r.body(t.kids[2])}
	})
	return x
}

func (r *resolver) match(t *tree) api.Expr {
	x := api.Expr{Op: api.OpMatch}
	r.locals.inside(func() {
		operand := r.expr(t.kids[0])
		x.Kids = []api.Expr{operand}
		others := r.others(t.kids[1])
		for _, k := range t.kids[2:] {
			taken := r.body(k)
			x.Kids = append(x.Kids, taken)
		}
		x.Kids = append(x.Kids, others...)
	})
	return x
}

// others returns the case that the else of a match is, if there is one.
func (r *resolver) others(t *tree) (l []api.Expr) {
	if t.Kind == syntax.Nothing {
		return nil
	}
	r.locals.inside(func() {
		unique := r.locals.unique("_")
		r.locals.declare(unique, "_")
		l = []api.Expr{{Op: api.OpCase, Text: unique, Types: []api.Type{named("Any", api.Tag)}, Kids: []api.Expr{{}, r.expr(t)}}}
	})
	return l
}

func (r *resolver) oneCase(t *tree) api.Expr {
	pattern := r.decl(t.kids[0])
	guard := api.Expr{}
	if t.kids[1].Kind != syntax.Nothing {
		guard = r.expr(t.kids[1])
	}
	return api.Expr{Op: api.OpCase, Text: pattern.Text, Types: pattern.Types, Kids: []api.Expr{guard, r.expr(t.kids[2])}}
}

func (r *resolver) try(t *tree) api.Expr {
	body := r.body(t.kids[0])
	other := r.body(t.kids[1])
	return api.Expr{Op: api.OpTry, Kids: []api.Expr{body, other, r.body(t.kids[2])}}
}

func (r *resolver) returned(t *tree) api.Expr {
	if t.kids[0].Kind == syntax.Nothing {
		return api.Expr{Op: api.OpReturn, Kids: []api.Expr{none()}}
	}
	return api.Expr{Op: api.OpReturn, Kids: r.exprs(t.kids)}
}
