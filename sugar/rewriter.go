package sugar

import (
	"cmp"
	"slices"

	"hackamore/api"
	"hackamore/convention"
	"hackamore/syntax"
)

// rewriter has the context of what it rewrites, the entities of the module, and those that it made.
type rewriter struct {
	*context
	rules       []func(*rewriter, *tree) api.Node
	flags       []string
	entities    map[string]*owner
	freshLocal  func() string
	freshEntity func() string
	made        []entity
	number      int
	left        int            // how many parts may still be rewritten until the plain tree must be too large
	told        map[*tree]bool // the parts that were rewritten once, and have no error there again
}

// entity is one that was made; its Bounds may be rewritten only behind it.
type entity struct {
	number int
	name   string
	kind   string
	bounds []*bounds
	is     api.Node
	kids   []api.Node
}

func newRewriter(n api.Node, flags []string) *rewriter {
	used := map[string]bool{}
	collect(n, used)
	rules := rules()
	return &rewriter{
		rules: rules[:], flags: flags, entities: map[string]*owner{}, told: map[*tree]bool{}, left: 10 * api.MaxNodes,
		freshLocal: freshNames("_", used), freshEntity: freshNames("_O", used),
	}
}

// isOver reports whether so many parts were rewritten that the plain tree is too large, and only errors are looked for.
func (r *rewriter) isOver() bool { return r.left < 0 }

func (r *rewriter) module(t *tree) api.Node {
	for _, k := range t.kids {
		if k.kind == syntax.Entity && r.entities[k.text] == nil {
			r.entities[k.text] = newOwner(k.text, k.kids[4:])
		}
	}
	out := node(syntax.Module, "")
	for _, k := range t.kids {
		if k.kind == syntax.Use {
			out.Kids = append(out.Kids, k.node)
			continue
		}
		r.made = nil
		e := r.entity(k)
		out.Kids = append(out.Kids, e)
		slices.SortFunc(r.made, func(a, b entity) int { return cmp.Compare(a.number, b.number) })
		for _, m := range r.made {
			out.Kids = append(out.Kids, m.node())
		}
	}
	return out
}

func (e entity) node() api.Node {
	all := node(syntax.Bounds, "")
	for _, b := range e.bounds {
		all.Kids = append(all.Kids, b.nodes...)
	}
	kids := []api.Node{word(e.kind), word(""), all, e.is}
	return node(syntax.Entity, e.name, append(kids, e.kids...)...)
}

// within rewrites in another context.
func (r *rewriter) within(c *context, f func()) {
	outer := r.context
	r.context = c
	f()
	r.context = outer
}

// inside rewrites in a scope of its own.
func (r *rewriter) inside(f func()) {
	outer := r.scope
	r.scope = &scope{map[string]*tree{}, outer}
	f()
	r.scope = outer
}

// declare puts a local in scope.
func (r *rewriter) declare(name string, typ *tree) {
	if !convention.Upper(name) {
		r.scope.types[name] = typ
	}
}

// expr rewrites an expression, or a Nothing.
func (r *rewriter) expr(t *tree) api.Node {
	r.left--
	return r.rules[t.kind](r, t)
}

// exprs rewrites expressions in order.
func (r *rewriter) exprs(l []*tree) []api.Node {
	var out []api.Node
	for _, t := range l {
		n := r.expr(t)
		out = append(out, n)
	}
	return out
}

// body rewrites an expression that is a body, or a Nothing.
func (r *rewriter) body(t *tree) (n api.Node) {
	r.inside(func() { n = r.expr(t) })
	return n
}

// typ rewrites a type, or a Nothing.
func (r *rewriter) typ(t *tree) api.Node {
	r.left--
	if r.isOver() { // types have no errors
		return nothing()
	}
	if t.kind == syntax.LambdaType {
		return r.lambdaType(t)
	}
	n := node(t.kind, t.text)
	for _, k := range t.kids {
		if k.kind == syntax.Word {
			n.Kids = append(n.Kids, word(k.text))
			continue
		}
		kid := r.typ(k)
		n.Kids = append(n.Kids, kid)
	}
	return n
}

// boundArgs returns the names of the type parameters in scope as type arguments.
func (r *rewriter) boundArgs() []api.Node {
	l := boundNames(r.bounds)
	r.left -= len(l)
	return l
}

// add takes a number and a name for an entity that is made; it returns the entity, and what adds it once it is ready.
func (r *rewriter) add(kind string) (*entity, func()) {
	r.number++
	e := &entity{number: r.number, name: r.freshEntity(), kind: kind, bounds: r.bounds, is: nothing()}
	return e, func() { r.made = append(r.made, *e) }
}

// lambdaType makes the interface of a lambda's type.
func (r *rewriter) lambdaType(t *tree) api.Node {
	e, add := r.add("interface")
	defer add()
	result := r.typ(t.kids[3])
	params := node(syntax.Params, "")
	number := freshNames("_a", nil)
	for _, k := range t.kids[4:] {
		p := node(syntax.Param, number(), r.typ(k), nothing())
		params.Kids = append(params.Kids, p)
	}
	e.kids = []api.Node{node(syntax.Method, "apply", word("fun"), word(onlyVal(t.kids[0].text)), node(syntax.Bounds, ""), params, result, word(t.kids[2].text), nothing())}
	kids := []api.Node{word(t.kids[0].text), word(t.kids[1].text)}
	return node(syntax.NamedType, e.name, append(kids, r.boundArgs()...)...)
}

// onlyVal is the capability of the method of a lambda, or its type.
func onlyVal(capability string) string {
	if capability == "val" {
		return "val"
	}
	return ""
}

// rewriteBounds rewrites Bounds once.
func (r *rewriter) rewriteBounds(t *tree, b *bounds) api.Node {
	var l []api.Node
	for _, k := range t.kids {
		n := node(syntax.Bound, k.text, r.typ(k.kids[0]))
		l = append(l, n)
	}
	b.nodes = l
	return node(syntax.Bounds, "", l...)
}
