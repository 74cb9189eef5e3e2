package names

import (
	"slices"

	"hackamore/api"
	"hackamore/syntax"
)

// typ returns the type of a tree that is no constraint.
func (r *resolver) typ(t *tree) api.Type {
	switch t.Kind {
	case syntax.NamedType:
		return r.namedType(t, false)
	case syntax.UnionType:
		return r.compound(api.TypeUnion, t)
	case syntax.BothType:
		return r.compound(api.TypeBoth, t)
	case syntax.TupleType:
		return r.compound(api.TypeTuple, t)
	case syntax.ArrowType:
		left := r.left(t.kids[0])
		return r.made(api.Type{Kind: api.TypeArrow, Args: []api.Type{left, r.typ(t.kids[1])}})
	}
	r.fail(t, ErrKind)
	return api.Type{}
}

func (r *resolver) compound(kind int, t *tree) api.Type {
	return r.made(api.Type{Kind: kind, Args: r.types(t.kids)})
}

// made returns a type; while errors are looked for it has no Args, since aliases of aliases may be far larger than all that is written.
func (r *resolver) made(t api.Type) api.Type {
	if r.refusing {
		t.Args = nil
	}
	return t
}

func (r *resolver) types(l []*tree) []api.Type {
	var out []api.Type
	for _, t := range l {
		x := r.typ(t)
		out = append(out, x)
	}
	return out
}

// left returns the left side of an arrow: this, or a type parameter.
func (r *resolver) left(t *tree) api.Type {
	if t.Kind == syntax.ThisType {
		return api.Type{Kind: api.TypeSelf}
	}
	if t.Kind != syntax.NamedType {
		r.fail(t, ErrKind)
	}
	if !r.mayBeParam(t) || r.isAlias {
		r.fail(t, ErrKind)
	}
	x := r.typ(t)
	if x.Kind != api.TypeParam { // the argument that an alias stands for is none
		r.fail(t, ErrKind)
	}
	return x
}

// mayBeParam reports whether a name is a type parameter, or an alias in whose place one of its arguments stands: what is wrong with its arguments comes behind what is wrong with a name.
func (r *resolver) mayBeParam(t *tree) bool {
	if r.params[t.Text] {
		return true
	}
	d := r.find(t, t.Text)
	return d.kind == 0 && (r.isAlias || r.expand(d).Kind == api.TypeParam)
}

// find returns what is visible under a name.
func (r *resolver) find(t *tree, name string) *declared {
	d := r.module.visible[name]
	if d == nil {
		r.fail(t, api.ErrScope)
	}
	return d
}

// constraint returns the type of a bound, at whose top a set of capabilities may stand.
func (r *resolver) constraint(t *tree) api.Type {
	switch t.Kind {
	case syntax.Nothing:
		return named("Any", api.CapAny)
	case syntax.NamedType:
		return r.namedType(t, true)
	}
	return r.typ(t)
}

func (r *resolver) namedType(t *tree, constraint bool) api.Type {
	c := capability(t.kids[0].Text)
	mark := slices.Index([]string{"", "^", "!"}, t.kids[1].Text)
	args := t.kids[2:]
	isSet := c >= api.CapRead && !constraint
	if r.params[t.Text] {
		if isSet {
			r.fail(t, ErrKind)
		}
		if len(args) > 0 {
			r.fail(t, ErrArity)
		}
		return api.Type{Kind: api.TypeParam, Name: t.Text, Cap: c, Mark: mark}
	}
	d := r.find(t, t.Text)
	if isSet || d.kind == 0 && (c != api.CapNone || mark != api.Plain) {
		r.fail(t, ErrKind)
	}
	if len(args) != len(d.bounds) {
		r.fail(t, ErrArity)
	}
	if d.kind == 0 {
		return r.standing(d, args)
	}
	if c == api.CapNone {
		c = d.cap
	}
	return r.made(api.Type{Kind: api.TypeName, Name: d.name, Cap: c, Mark: mark, Args: r.types(args)})
}

// standing returns what stands in the place of an alias with arguments; those that it does not use are looked at for their errors alone.
func (r *resolver) standing(d *declared, args []*tree) api.Type {
	t := r.expand(d)
	types := make([]api.Type, len(args))
	for i, a := range args {
		if r.refusing || uses(t, d.bounds[i]) {
			types[i] = r.typ(a)
		}
	}
	return substitute(t, d.bounds, types)
}

// uses reports whether a type parameter is in a type.
func uses(t api.Type, param string) bool {
	return t.Kind == api.TypeParam && t.Name == param || slices.ContainsFunc(t.Args, func(a api.Type) bool { return uses(a, param) })
}

// expand returns the type of an alias, with its own type parameters; the zero Type, if it is wrong: then it is refused where it is declared.
func (r *resolver) expand(d *declared) api.Type {
	if d.typ == nil {
		x := r.aliasType(d)
		d.typ = &x
	}
	return *d.typ
}

func (r *resolver) aliasType(d *declared) (x api.Type) {
	outer := r.place
	defer func() {
		r.place = outer
		if recover() != nil {
			x = api.Type{}
		}
	}()
	r.place = &place{module: d.module, params: set(d.bounds), isAlias: true}
	return r.typ(d.tree.kids[3])
}

func set(names []string) map[string]bool {
	s := map[string]bool{}
	for _, n := range names {
		s[n] = true
	}
	return s
}

// substitute returns a type with arguments in the places of type parameters. It shares no memory with one of them.
func substitute(t api.Type, params []string, args []api.Type) api.Type {
	if i := slices.Index(params, t.Name); t.Kind == api.TypeParam && i >= 0 {
		return with(args[i], t.Cap, t.Mark)
	}
	t.Args = slices.Clone(t.Args)
	for i, a := range t.Args {
		t.Args[i] = substitute(a, params, args)
	}
	return t
}

// with returns a type whose parts have a capability and a mark, if these are not none.
func with(t api.Type, c, mark int) api.Type {
	first := 0
	switch t.Kind {
	case api.TypeName, api.TypeParam:
		if c != api.CapNone {
			t.Cap = c
		}
		if mark != api.Plain {
			t.Mark = mark
		}
		c, mark = api.CapNone, api.Plain
	case api.TypeArrow:
		first = 1
	}
	t.Args = slices.Clone(t.Args)
	for i, a := range t.Args {
		if i < first {
			t.Args[i] = with(a, api.CapNone, api.Plain)
			continue
		}
		t.Args[i] = with(a, c, mark)
	}
	return t
}
