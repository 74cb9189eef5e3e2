package derive

import (
	"slices"

	"hackamore/api"
	"hackamore/check"
	"hackamore/flow"
	"hackamore/subtype"
	"hackamore/types"
)

// walk goes through a body, Kids first, and tells in which context each expression stands: consumed are the names of the
// local variables that are consumed anywhere, locals those that were declared until now, and regions how many there were.
type walk struct {
	consumed map[string]bool
	locals   []check.Local
	regions  int
	claim    func() api.Type // hands out the claimed types in the order of the walk
}

// step is an expression to which a walk came, with the claimed types of it and its Kids.
type step struct {
	check.Context
	api.Expr
	path    []int
	claimed api.Type
	kids    []api.Type
}

// node comes to an expression in a context, and hands it to judge behind its Kids. It ends at the first error.
func (w *walk) node(c check.Context, x api.Expr, path []int, judge func(step) api.Errno) (t api.Type, wrong []int, e api.Errno) {
	c.Locals = w.locals[:len(w.locals):len(w.locals)]
	s := step{Context: c, Expr: x, path: path, claimed: w.claim()}
	if isNone(x) {
		return s.claimed, path, judge(s)
	}
	inner := c
	if x.Op == api.OpRecover {
		w.regions++
		inner.Regions = append(slices.Clip(c.Regions), w.regions)
	}
	own := len(w.locals)
	for i, k := range x.Kids {
		if x.Op == api.OpCase && x.Text != "" {
			w.bind(s, own, i == 0)
		}
		t, wrong, e := w.node(inner, k, append(slices.Clip(path), i), judge)
		if e != api.OK {
			return api.Type{}, wrong, e
		}
		s.kids = append(s.kids, t)
	}
	if x.Op == api.OpVar || x.Op == api.OpLet {
		w.declare(s, check.Local{Always: len(x.Kids) > 0, Type: x.Types[0]})
	}
	return s.claimed, path, judge(s)
}

// declare adds the local variable that an expression declares.
func (w *walk) declare(s step, l check.Local) {
	l.Name = s.Text
	l.Always = l.Always && !w.consumed[s.Text]
	if n := len(s.Regions); n > 0 {
		l.Region = s.Regions[n-1]
	}
	w.locals = append(w.locals, l)
}

// bind declares what a case binds ahead of its guard, where it stays what it was, and gives it its own type behind that.
func (w *walk) bind(s step, own int, guard bool) {
	if !guard {
		w.locals[own].Type = s.Types[0]
		return
	}
	t := s.Types[0]
	for range 2 {
		t, _ = types.Aliased(t)
	}
	w.declare(s, check.Local{Param: true, Always: true, Type: t})
}

// nodes hands on the expressions of a body with their paths, in the order of the walk, as long as visit holds.
func nodes(x api.Expr, path []int, visit func([]int, api.Expr) bool) bool {
	if !visit(path, x) {
		return false
	}
	if isNone(x) {
		return true
	}
	for i, k := range x.Kids {
		if !nodes(k, append(slices.Clip(path), i), visit) {
			return false
		}
	}
	return true
}

// derivation asks what a certificate claims for one body, step by step; each step returns the place of its error.
type derivation struct {
	walk
	p       []api.Entity
	body    check.Body
	entity  api.Entity
	method  api.Method
	start   check.Context
	partial [][]int
}

func (d *derivation) begin() (path []int, e api.Errno) {
	d.start, e = check.Begin(d.p, d.body.Entity, d.body.Method)
	return nil, e
}

func (d *derivation) shape() ([]int, api.Errno) { return check.Shape(d.method.Body) }

// count asks whether there are as many types as expressions.
func (d *derivation) count() ([]int, api.Errno) {
	l := d.body.Types
	if isNone(d.method.Body) && len(l) == 0 {
		return nil, api.OK
	}
	n := 0
	nodes(d.method.Body, nil, func([]int, api.Expr) bool {
		n++
		return true
	})
	if len(l) != n || isNone(d.method.Body) && !isZero(l[0]) {
		return nil, ErrBodies
	}
	return nil, api.OK
}

// claimed asks whether the types are right by themselves.
func (d *derivation) claimed() (wrong []int, e api.Errno) {
	next := handOut(d.body.Types)
	nodes(d.method.Body, nil, func(path []int, _ api.Expr) bool {
		wrong, e = path, checkClaimed(next())
		return e == api.OK
	})
	return wrong, e
}

// handOut returns a function that returns types, one by one.
func handOut(l []api.Type) func() api.Type {
	n := 0
	return func() api.Type {
		n++
		return l[n-1]
	}
}

// follow asks whether each type follows from those of the parts.
func (d *derivation) follow() ([]int, api.Errno) {
	consumed := map[string]bool{}
	nodes(d.method.Body, nil, func(_ []int, x api.Expr) bool {
		if x.Op == api.OpConsume {
			consumed[x.Text] = true
		}
		return true
	})
	d.walk = walk{consumed: consumed, locals: d.start.Locals, claim: handOut(d.body.Types)}
	_, wrong, e := d.node(d.start, d.method.Body, nil, d.judge)
	return wrong, e
}

// judge asks of one expression whether its type follows.
func (d *derivation) judge(s step) api.Errno {
	if isNone(s.Expr) {
		if isZero(s.claimed) {
			return api.OK
		}
		return ErrClaim
	}
	r, e := check.Rule(d.p, s.Context, s.Expr, s.kids)
	if e != api.OK {
		return e
	}
	if !d.holds(r, s.claimed) {
		return ErrClaim
	}
	if d.mayFail(s) {
		d.partial = append(d.partial, slices.Clone(s.path))
	}
	return api.OK
}

// holds reports whether a type may be claimed where a rule gives another one.
func (d *derivation) holds(r, t api.Type) bool {
	return isZero(r) || !isZero(t) && (types.Equal(t, r) || subtype.Is(d.p, r, t))
}

// mayFail reports whether an expression calls what may end with an error.
func (d *derivation) mayFail(s step) bool {
	switch s.Op {
	case api.OpCall:
		m, e := subtype.Lookup(d.p, s.kids[0], s.Text)
		return e == api.OK && m.Partial
	case api.OpNew:
		i, e := subtype.Find(d.p, s.Types[0].Name)
		if e != api.OK {
			return false
		}
		l := d.p[i].Methods
		j := slices.IndexFunc(l, func(m api.Method) bool { return m.Name == s.Text })
		return j >= 0 && l[j].Partial
	}
	return false
}

// result asks whether the value of the body is what the method returns.
func (d *derivation) result() ([]int, api.Errno) {
	wanted := d.method.Result
	if d.method.Kind != api.Fun || isZero(wanted) || types.Equal(wanted, types.Named("None", api.Val, nil)) {
		return nil, api.OK
	}
	wanted, e := types.Self(wanted, d.method.Cap, api.Plain)
	given := d.body.Types[0]
	if e != api.OK || !isZero(given) && !subtype.Is(d.p, given, wanted) {
		return nil, check.ErrResult
	}
	return nil, api.OK
}

// flow asks whether all that is read has a value, and errors leave only where they may.
func (d *derivation) flow() ([]int, api.Errno) {
	report, e := flow.Check(d.entity, d.body.Method, d.partial)
	if e != api.OK || len(report.Faults) == 0 {
		return nil, e
	}
	return report.Faults[0].Path, report.Faults[0].Code
}
