package check

import (
	"slices"

	"hackamore/api"
	"hackamore/flow"
	"hackamore/types"
)

// Begin returns the context at the beginning of a method.
func Begin(p []api.Entity, entity, method int) (Context, api.Errno) {
	owner, m, ok := methodAt(p, entity, method)
	if !ok {
		return Context{}, api.ErrRange
	}
	c := Context{Entity: entity, Method: method}
	consumed := consumedIn(m.Body)
	for _, param := range m.Params {
		t, e := types.Self(param.Type, receiver(owner, m), api.Plain)
		if e != api.OK {
			return Context{}, e
		}
		c.Locals = append(c.Locals, Local{Name: param.Name, Param: true, Always: !consumed[param.Name], Type: copied(t)})
	}
	return c, api.OK
}

// kidsList says which list of Kids one is: where it begins in memory, and how many they are.
type kidsList struct {
	first *api.Expr
	n     int
}

// consumedIn returns the names of the local variables that are consumed anywhere in an expression. A list of Kids that stands in
// several places is looked at once: there may be too many of these to come to all.
func consumedIn(x api.Expr) map[string]bool {
	names, seen := map[string]bool{}, map[kidsList]bool{}
	var walk func(x api.Expr)
	walk = func(x api.Expr) {
		if x.Op == api.OpConsume {
			names[x.Text] = true
		}
		if isNone(x) || len(x.Kids) == 0 {
			return
		}
		l := kidsList{&x.Kids[0], len(x.Kids)}
		if seen[l] {
			return
		}
		seen[l] = true
		for _, k := range x.Kids {
			walk(k)
		}
	}
	walk(x)
	return names
}

// failure is what ends the walk of a body: an error at a path.
type failure struct {
	path []int
	code api.Errno
}

// Method returns the types of the expressions of one method.
func Method(p []api.Entity, entity, method int) (b Body, f Fault, e api.Errno) {
	owner, m, ok := methodAt(p, entity, method)
	if !ok {
		return Body{}, Fault{}, api.ErrRange
	}
	defer func() {
		if x := recover(); x != nil {
			wrong, ok := x.(failure)
			if !ok {
				panic(x)
			}
			b, f, e = Body{}, Fault{entity, method, wrong.path}, wrong.code
		}
	}()
	c, e := Begin(p, entity, method)
	must(nil, e)
	path, e := Shape(m.Body)
	must(path, e)
	b = Body{Entity: entity, Method: method}
	if isNone(m.Body) {
		return b, Fault{}, api.OK
	}
	w := walker{p: p, owner: owner, method: m, rules: rules(), consumed: consumedIn(m.Body), locals: c.Locals}
	found := w.walk(c, m.Body, nil)
	if hasResult(m) {
		result, e := types.Self(m.Result, m.Cap, api.Plain)
		if e != api.OK || !fits(p, found, result) {
			must(nil, ErrResult)
		}
	}
	report, e := flow.Check(p[entity], method, w.partial)
	must(nil, e)
	for _, wrong := range report.Faults {
		must(wrong.Path, wrong.Code)
	}
	b.Types = w.types
	return b, Fault{}, api.OK
}

// must leaves the body where there is an error.
func must(path []int, e api.Errno) {
	if e != api.OK {
		panic(failure{slices.Clone(path), e})
	}
}

// walker goes through a body. It has the types that it found, those of nodes ahead of their Kids', the local variables that
// were declared until now, how many regions there were, and the paths of what may end with an error.
type walker struct {
	p        []api.Entity
	owner    api.Entity
	method   api.Method
	rules    ruleTable
	consumed map[string]bool
	locals   []Local
	regions  int
	types    []api.Type
	partial  [][]int
}

// walk finds the type of an expression that stands in a context, but for the local variables, which are those of the walk.
func (w *walker) walk(c Context, x api.Expr, path []int) api.Type {
	at := len(w.types)
	w.types = append(w.types, api.Type{})
	if isNone(x) {
		return api.Type{}
	}
	c.Locals = w.locals[:len(w.locals):len(w.locals)]
	inner := c
	if x.Op == api.OpRecover {
		w.regions++
		n := len(c.Regions)
		inner.Regions = append(c.Regions[:n:n], w.regions)
	}
	bound := len(w.locals)
	var kids []api.Type
	for i, k := range x.Kids {
		if x.Op == api.OpCase {
			w.bind(c, x, i, bound)
		}
		kids = append(kids, w.walk(inner, k, append(slices.Clip(path), i)))
	}
	if x.Op == api.OpVar || x.Op == api.OpLet {
		w.declare(c, x, len(x.Kids) > 0)
	}
	q := &place{Context: c, Expr: x, p: w.p, owner: w.owner, method: w.method, kids: kids}
	t, e := q.apply(w.rules)
	must(path, e)
	if q.partial {
		w.partial = append(w.partial, slices.Clone(path))
	}
	w.types[at] = copied(t)
	return t
}

// declare adds the local variable that an expression declares.
func (w *walker) declare(c Context, x api.Expr, hasValue bool) {
	l := Local{Name: x.Text, Type: x.Types[0], Always: hasValue && !w.consumed[x.Text]}
	if n := len(c.Regions); n > 0 {
		l.Region = c.Regions[n-1]
	}
	w.locals = append(w.locals, l)
}

// bind gives what a case binds the type that it has in the guard, and then the one that it has in the body.
func (w *walker) bind(c Context, x api.Expr, kid, at int) {
	if x.Text == "" {
		return
	}
	if kid > 0 {
		w.locals[at].Type = x.Types[0]
		return
	}
	w.declare(c, x, true)
	t, _ := held(x.Types[0])
	w.locals[at].Param, w.locals[at].Type = true, t
}

// held returns the type of a value that stays where it is.
func held(t api.Type) (api.Type, api.Errno) {
	t, e := types.Aliased(t)
	if e == api.OK {
		t, e = types.Aliased(t)
	}
	return t, e
}
