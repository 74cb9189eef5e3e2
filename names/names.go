// Package names is layer 6: modules resolved to programs of entities. See shared/doc/06-names.md.
package names

import (
	"maps"
	"slices"

	"hackamore/api"
	"hackamore/parser"
	"hackamore/sugar"
)

// Errors of this layer.
const (
	ErrUse     api.Errno = 80 // a package that is not there
	ErrKind    api.Errno = 81 // a name of another kind than is wanted
	ErrArity   api.Errno = 82 // another number of type arguments
	ErrCycle   api.Errno = 83 // aliases that lead to themselves, or uses in a circle
	ErrLiteral api.Errno = 84 // a literal out of the range of its type
	ErrMain    api.Errno = 85 // no main actor
)

// Source is a module: its package, its path of nodes for errors is told by its index.
type Source struct {
	Package string
	Tree    api.Node
}

// Fault is where a program is wrong: the source and the path of the node.
type Fault struct {
	Source int
	Path   []int
}

// failure is what a walk panics with.
type failure struct {
	fault Fault
	code  api.Errno
}

// Resolve returns the program of plain trees.
func Resolve(l []Source, flags []string) (p []api.Entity, f Fault, e api.Errno) {
	defer func() {
		if x := recover(); x != nil {
			why, ok := x.(failure)
			if !ok {
				why.code = api.ErrForm
			}
			p, f, e = nil, Fault{why.fault.Source, slices.Clone(why.fault.Path)}, why.code
		}
	}()
	r := newResolver(l, flags)
	r.declare()
	r.refuseCycles()
	r.refuse()
	p = r.program()
	if !isListed(p) {
		return nil, Fault{}, api.ErrFull
	}
	return p, Fault{}, api.OK
}

// isListed reports whether a program has no more entities, and these no more of anything, than may be listed.
func isListed(p []api.Entity) bool {
	return len(p) <= api.MaxUnits && !slices.ContainsFunc(p, listsTooMuch)
}

// Program reads, desugars and resolves texts of modules by their packages.
func Program(texts map[string]string, flags []string) ([]api.Entity, api.Errno) {
	var l []Source
	for _, name := range slices.Sorted(maps.Keys(texts)) {
		n, _, e := parser.Parse(texts[name])
		if e != api.OK {
			return nil, e
		}
		n, _, e = sugar.Module(n, flags)
		if e != api.OK {
			return nil, e
		}
		l = append(l, Source{name, n})
	}
	p, _, e := Resolve(l, flags)
	if e != api.OK {
		return nil, e
	}
	if !hasMain(p) {
		return nil, ErrMain
	}
	return p, api.OK
}

// hasMain reports whether there is an actor main.Main with a constructor create that takes an Env val alone.
func hasMain(p []api.Entity) bool {
	main, _ := Find(p, "main.Main")
	env := api.Type{Kind: api.TypeName, Name: "Env", Cap: api.Val}
	return main.Kind == api.Actor && slices.ContainsFunc(main.Methods, func(m api.Method) bool {
		return m.Name == "create" && m.Kind == api.New && len(m.Params) == 1 && equalTypes(m.Params[0].Type, env)
	})
}

// Find returns the entity with a name.
func Find(p []api.Entity, name string) (api.Entity, bool) {
	for _, e := range p {
		if e.Name == name {
			return e, true
		}
	}
	return api.Entity{}, false
}

// Equal reports whether two programs are equal.
func Equal(a, b []api.Entity) bool { return slices.EqualFunc(a, b, equalEntities) }

func equalEntities(a, b api.Entity) bool {
	return a.Kind == b.Kind && a.Name == b.Name && a.Cap == b.Cap && slices.EqualFunc(a.Bounds, b.Bounds, equalBounds) &&
		slices.EqualFunc(a.Provides, b.Provides, equalTypes) && slices.EqualFunc(a.Fields, b.Fields, equalFields) &&
		slices.EqualFunc(a.Methods, b.Methods, equalMethods)
}

func equalBounds(a, b api.Bound) bool { return a.Name == b.Name && equalTypes(a.Type, b.Type) }

func equalFields(a, b api.Field) bool {
	return a.Name == b.Name && a.Let == b.Let && equalTypes(a.Type, b.Type)
}

func equalParams(a, b api.Param) bool { return a.Name == b.Name && equalTypes(a.Type, b.Type) }

func equalMethods(a, b api.Method) bool {
	return a.Kind == b.Kind && a.Name == b.Name && a.Cap == b.Cap && slices.EqualFunc(a.Bounds, b.Bounds, equalBounds) &&
		slices.EqualFunc(a.Params, b.Params, equalParams) && equalTypes(a.Result, b.Result) && a.Partial == b.Partial && equalExprs(a.Body, b.Body)
}

func equalTypes(a, b api.Type) bool {
	return a.Kind == b.Kind && a.Name == b.Name && a.Cap == b.Cap && a.Mark == b.Mark && slices.EqualFunc(a.Args, b.Args, equalTypes)
}

func equalExprs(a, b api.Expr) bool {
	return a.Op == b.Op && a.Text == b.Text && slices.EqualFunc(a.Types, b.Types, equalTypes) && slices.EqualFunc(a.Kids, b.Kids, equalExprs)
}
