package generic

import (
	"cmp"
	"iter"
	"maps"
	"slices"

	"hackamore/api"
)

// Edge says that the type parameter From of an entity or a method becomes a part of an argument of the parameter To; Grows, if the argument is more than the parameter itself.
type Edge struct {
	From, To string
	Grows    bool
}

// nodes hands on the nodes of a type.
func nodes(t api.Type) iter.Seq[api.Type] {
	return func(yield func(api.Type) bool) { walkType(t, yield) }
}

func walkType(t api.Type, visit func(api.Type) bool) bool {
	return visit(t) && all(t.Args, func(a api.Type) bool { return walkType(a, visit) })
}

// exprs hands on the nodes of a body.
func exprs(x api.Expr) iter.Seq[api.Expr] {
	return func(yield func(api.Expr) bool) { walkExpr(x, yield) }
}

func walkExpr(x api.Expr, visit func(api.Expr) bool) bool {
	return visit(x) && all(x.Kids, func(k api.Expr) bool { return walkExpr(k, visit) })
}

// methodTypes hands on the types that a method mentions; those in others are not told.
func methodTypes(m api.Method) iter.Seq[api.Type] {
	return func(yield func(api.Type) bool) {
		ok := all(m.Bounds, func(b api.Bound) bool { return yield(b.Type) }) &&
			all(m.Params, func(p api.Param) bool { return yield(p.Type) }) && yield(m.Result)
		if ok {
			walkExpr(m.Body, func(x api.Expr) bool { return all(x.Types, yield) })
		}
	}
}

// ownTypes hands on the types that an entity mentions outside of its methods.
func ownTypes(e api.Entity) iter.Seq[api.Type] {
	return func(yield func(api.Type) bool) {
		_ = all(e.Provides, yield) && all(e.Fields, func(f api.Field) bool { return yield(f.Type) }) &&
			all(e.Bounds, func(b api.Bound) bool { return yield(b.Type) })
	}
}

// counted returns the entities of a program that count, by their names.
func counted(p []api.Entity) map[string]api.Entity {
	m := map[string]api.Entity{}
	for _, e := range p {
		if _, hidden := m[e.Name]; !hidden {
			m[e.Name] = e
		}
	}
	return m
}

// target is a list of type parameters, as they are written.
type target struct {
	owner string // what stands ahead of their names
	names []string
}

// flows collects edges.
type flows struct {
	entities map[string]api.Entity
	methods  map[string][]target // by names of methods
	edges    map[Edge]bool
}

// place is where a type stands: in an entity, and perhaps in a method.
type place struct {
	entity api.Entity
	method *api.Method
}

// param returns how the parameter that a name means is written.
func (at place) param(name string) (string, bool) {
	if at.method != nil && slices.Contains(boundNames(at.method.Bounds), name) {
		return methodParams(at.entity, *at.method).owner + name, true
	}
	return at.entity.Name + "." + name, slices.Contains(boundNames(at.entity.Bounds), name)
}

func methodParams(e api.Entity, m api.Method) target {
	return target{e.Name + "." + m.Name + ".", boundNames(m.Bounds)}
}

func newFlows(p []api.Entity) *flows {
	f := &flows{counted(p), map[string][]target{}, map[Edge]bool{}}
	for _, e := range f.entities {
		for _, m := range e.Methods {
			f.methods[m.Name] = append(f.methods[m.Name], methodParams(e, m))
		}
	}
	return f
}

// into adds the edges from the parameters in arguments to those that get them.
func (f *flows) into(at place, args []api.Type, to target) {
	if len(args) != len(to.names) {
		return
	}
	for i, arg := range args {
		within := false // the first node is the argument itself
		for n := range nodes(arg) {
			from, ok := at.param(n.Name)
			if ok && n.Kind == api.TypeParam {
				f.edges[Edge{from, to.owner + to.names[i], within}] = true
			}
			within = true
		}
	}
}

// typ adds the edges of a type that is mentioned.
func (f *flows) typ(at place, t api.Type) {
	for n := range nodes(t) {
		if e, ok := f.entities[n.Name]; ok && n.Kind == api.TypeName {
			f.into(at, n.Args, target{e.Name + ".", boundNames(e.Bounds)})
		}
	}
}

// call adds the edges of the type arguments of a method that is called.
func (f *flows) call(at place, x api.Expr) {
	switch {
	case x.Op == api.OpCall && len(x.Types) > 0:
		for _, to := range f.methods[x.Text] {
			f.into(at, x.Types, to)
		}
	case x.Op == api.OpNew && len(x.Types) > 1 && x.Types[0].Kind == api.TypeName:
		e := f.entities[x.Types[0].Name]
		for _, m := range e.Methods {
			if m.Name == x.Text {
				f.into(at, x.Types[1:], methodParams(e, m))
			}
		}
	}
}

func (f *flows) entity(e api.Entity) {
	for t := range ownTypes(e) {
		f.typ(place{entity: e}, t)
	}
	for _, m := range e.Methods {
		at := place{e, &m}
		for t := range methodTypes(m) {
			f.typ(at, t)
		}
		for x := range exprs(m.Body) {
			f.call(at, x)
		}
	}
}

// edgesOf returns the edges of a program of any size.
func edgesOf(p []api.Entity) []Edge {
	f := newFlows(p)
	for _, e := range f.entities {
		f.entity(e)
	}
	return slices.SortedFunc(maps.Keys(f.edges), compareEdges)
}

func compareEdges(a, b Edge) int {
	grows := 0
	switch {
	case a.Grows && !b.Grows:
		grows = 1
	case b.Grows && !a.Grows:
		grows = -1
	}
	return cmp.Or(cmp.Compare(a.From, b.From), cmp.Compare(a.To, b.To), grows)
}

// Edges returns how type parameters flow into one another.
func Edges(p []api.Entity) ([]Edge, api.Errno) {
	if !isSmall(p) {
		return nil, api.ErrSize
	}
	return edgesOf(p), api.OK
}

// Ends reports whether reification ends; otherwise it returns parameters that grow in a circle.
func Ends(p []api.Entity) (bool, []string, api.Errno) {
	if !isSmall(p) {
		return false, nil, api.ErrSize
	}
	edges := edgesOf(p)
	groups := circles(edges)
	var l []string
	for _, x := range edges {
		if x.Grows && groups[x.From] == groups[x.To] {
			l = append(l, x.From)
		}
	}
	l = slices.Compact(l) // edges ascend by From
	return len(l) == 0, l, api.OK
}

// circles returns the number of a group for each parameter: those of one group lead to one another.
// It goes along the edges, and keeps on a stack what has no group yet; low is the first one there that a parameter leads to.
func circles(edges []Edge) map[string]int {
	next := map[string][]string{}
	for _, x := range edges {
		next[x.From] = append(next[x.From], x.To)
	}
	var stack []string
	low, group := map[string]int{}, map[string]int{}
	var visit func(name string) int
	visit = func(name string) int {
		at, from := len(low)+1, len(stack)
		low[name] = at
		stack = append(stack, name)
		for _, to := range next[name] {
			_, done := group[to]
			if done {
				continue
			}
			reach, seen := low[to]
			if !seen {
				reach = visit(to)
			}
			low[name] = min(low[name], reach)
		}
		if low[name] == at {
			for _, member := range stack[from:] {
				group[member] = at
			}
			stack = stack[:from]
		}
		return low[name]
	}
	for _, x := range edges {
		if _, seen := low[x.From]; !seen {
			visit(x.From)
		}
	}
	return group
}
