package subtype

import (
	"hackamore/api"
	"hackamore/cap"
	"hackamore/types"
)

// Rules of derivations.
const (
	_         = iota
	Super     // a supertype of the first type has the name of the second one
	Structure // the first type has all methods of an interface
	Assumed   // it is being asked already
	UnionAll  // each part of the first type
	BothAll   // each part of the second type
	UnionOne  // one part of the second type
	BothOne   // one part of the first type
	Tuple     // element by element
	Param     // the same type parameter, or the receiver
)

// Proof is a derivation that the type A is a subtype of B. N is the number of a part, or of a supertype.
type Proof struct {
	Rule, N int
	A, B    api.Type
	Kids    []Proof
}

// pair is what a question is about.
type pair struct{ a, b api.Type }

func (q pair) equal(r pair) bool { return types.Equal(q.a, r.a) && types.Equal(q.b, r.b) }

// assumed is a question whose methods are being asked about, and those above it.
type assumed struct {
	pair
	above *assumed
}

func (l *assumed) has(q pair) bool {
	for ; l != nil; l = l.above {
		if l.equal(q) {
			return true
		}
	}
	return false
}

// asker asks questions about a program, and counts them; once there are too many, the answer to all is no.
// What it found once about a type it keeps by the type's text.
type asker struct {
	p       []api.Entity
	steps   int
	supers  map[string][]api.Type
	methods map[string][]api.Method
	one     map[named]lookedUp
}

// named is a method's name in a type with a text.
type named struct{ text, name string }

type lookedUp struct {
	method api.Method
	ok     bool
}

func newAsker(p []api.Entity) *asker {
	return &asker{p: p, supers: map[string][]api.Type{}, methods: map[string][]api.Method{}, one: map[named]lookedUp{}}
}

func (k *asker) isOver() bool { return k.steps > MaxSteps }

// supersOf returns the supertypes of a right TypeName.
func (k *asker) supersOf(t api.Type) []api.Type {
	return kept(k.supers, textOf(t), func() []api.Type { return supersOf(k.p, t) })
}

// methodsOf returns all methods of a right TypeName.
func (k *asker) methodsOf(t api.Type) []api.Method {
	return kept(k.methods, textOf(t), func() []api.Method { return allMethods(k.p, k.supersOf(t)) })
}

// method returns the method of a right TypeName with a name.
func (k *asker) method(t api.Type, name string) (api.Method, bool) {
	x := kept(k.one, named{textOf(t), name}, func() lookedUp {
		m, ok := method(k.p, k.supersOf(t), name)
		return lookedUp{m, ok}
	})
	return x.method, x.ok
}

// kept returns what a map has for a key; the first time it is found.
func kept[K comparable, V any](m map[K]V, key K, find func() V) V {
	v, ok := m[key]
	if !ok {
		v = find()
		m[key] = v
	}
	return v
}

func textOf(t api.Type) string {
	s, _ := types.Text(t)
	return s
}

// question is a pair, whether it is bare, and what is assumed.
type question struct {
	pair
	bare  bool
	above *assumed
}

// kid returns a question that this one asks; it is as bare as this one.
func (q question) kid(a, b api.Type) question { return question{pair{a, b}, q.bare, q.above} }

// ask answers a question, and returns the derivation of a yes.
func (k *asker) ask(q question) (Proof, bool) {
	k.steps++
	if k.isOver() {
		return Proof{}, false
	}
	a, b := q.a, q.b
	switch {
	case a.Kind == api.TypeUnion:
		return k.each(q, UnionAll, 0, eachOf(q, a.Args, nil))
	case b.Kind == api.TypeBoth:
		return k.each(q, BothAll, 0, eachOf(q, nil, b.Args))
	case b.Kind == api.TypeUnion:
		if d, ok := k.oneOf(q, UnionOne, eachOf(q, nil, b.Args)); ok || a.Kind != api.TypeBoth {
			return d, ok
		}
		return k.oneOf(q, BothOne, eachOf(q, a.Args, nil))
	case a.Kind == api.TypeBoth:
		return k.oneOf(q, BothOne, eachOf(q, a.Args, nil))
	case areTuples(a, b):
		return k.each(q, Tuple, 0, eachOf(q, a.Args, b.Args))
	case a.Kind == api.TypeName && b.Kind == api.TypeName:
		return k.names(q)
	case areParams(a, b) && (q.bare || paramFits(a, b)):
		return Proof{Rule: Param, A: a, B: b}, true
	}
	return Proof{}, false
}

// eachOf returns the questions of parts: of the first type, or of the second one, or of both, one by one.
func eachOf(q question, as, bs []api.Type) []question {
	var l []question
	for i := range max(len(as), len(bs)) {
		a, b := q.a, q.b
		if as != nil {
			a = as[i]
		}
		if bs != nil {
			b = bs[i]
		}
		l = append(l, q.kid(a, b))
	}
	return l
}

// each asks questions as long as the answers are yes.
func (k *asker) each(q question, rule, n int, l []question) (Proof, bool) {
	d := Proof{Rule: rule, N: n, A: q.a, B: q.b}
	for _, kid := range l {
		x, ok := k.ask(kid)
		if !ok {
			return Proof{}, false
		}
		d.Kids = append(d.Kids, x)
	}
	return d, true
}

// oneOf asks questions as long as the answers are no.
func (k *asker) oneOf(q question, rule int, l []question) (Proof, bool) {
	for n := range l {
		if d, ok := k.each(q, rule, n, l[n:n+1]); ok || k.isOver() {
			return d, ok
		}
	}
	return Proof{}, false
}

func areTuples(a, b api.Type) bool {
	return a.Kind == api.TypeTuple && b.Kind == api.TypeTuple && len(a.Args) == len(b.Args)
}

// areParams reports whether two types are of those that have but themselves to fit.
func areParams(a, b api.Type) bool {
	switch {
	case a.Kind != b.Kind:
		return false
	case a.Kind == api.TypeParam:
		return a.Name == b.Name && a.Cap == b.Cap
	case a.Kind == api.TypeArrow:
		return types.Equal(a, b)
	}
	return a.Kind == api.TypeSelf
}

func paramFits(a, b api.Type) bool {
	if a.Cap == api.CapNone && b.Cap == api.CapNone {
		return a.Mark == b.Mark
	}
	return fits(a, b)
}

func fits(a, b api.Type) bool { return cap.Fits(a.Cap, a.Mark, b.Cap, b.Mark) }

// names answers a question about two names.
func (k *asker) names(q question) (Proof, bool) {
	if !q.bare && !fits(q.a, q.b) {
		return Proof{}, false
	}
	for n, s := range k.supersOf(q.a) {
		if !isInstance(s, q.b) {
			continue
		}
		if d, ok := k.each(q, Super, n, sameArgs(q, s)); ok || k.isOver() {
			return d, ok
		}
	}
	switch {
	case !isInterface(k.p, q.b):
		return Proof{}, false
	case q.above.has(q.pair):
		return Proof{Rule: Assumed, A: q.a, B: q.b}, true
	}
	return k.structure(q)
}

// isInstance reports whether a supertype has the name of a type, and as many arguments.
func isInstance(s, t api.Type) bool { return s.Name == t.Name && len(s.Args) == len(t.Args) }

// sameArgs returns the questions whether the arguments of a supertype are those of the second type.
func sameArgs(q question, s api.Type) []question {
	var l []question
	for i, x := range s.Args {
		y := q.b.Args[i]
		l = append(l, question{pair{x, y}, false, q.above}, question{pair{y, x}, false, q.above})
	}
	return l
}

// isInterface reports whether a type is that of an interface.
func isInterface(p []api.Entity, t api.Type) bool {
	e, ok := entityOf(p, t)
	return ok && e.Kind == api.Interface
}

// structure asks whether the first type has the methods of an interface.
func (k *asker) structure(q question) (Proof, bool) {
	d := Proof{Rule: Structure, A: q.a, B: q.b}
	above := &assumed{q.pair, q.above}
	for _, n := range k.methodsOf(q.b) {
		m, ok := k.method(q.a, n.Name)
		if !ok {
			return Proof{}, false
		}
		l, ok := questionsOf(m, n, q.bare)
		if !ok {
			return Proof{}, false
		}
		for _, next := range l {
			x, ok := k.ask(question{next, false, above})
			if !ok {
				return Proof{}, false
			}
			d.Kids = append(d.Kids, x)
		}
	}
	return d, true
}

// Is reports whether a type is a subtype of another one.
func Is(p []api.Entity, a, b api.Type) bool { return answer(p, a, b, false) }

// Bare reports whether a type is a subtype of another one without regard to capabilities and marks.
func Bare(p []api.Entity, a, b api.Type) bool { return answer(p, a, b, true) }

// Same reports whether two types are subtypes of each other.
func Same(p []api.Entity, a, b api.Type) bool { return Is(p, a, b) && Is(p, b, a) }

func answer(p []api.Entity, a, b api.Type, bare bool) bool {
	if checkAsked(p, a, b) != api.OK {
		return false
	}
	k := newAsker(p)
	_, ok := k.ask(question{pair{a, b}, bare, nil})
	return ok && !k.isOver()
}

// Derive returns a derivation.
func Derive(p []api.Entity, a, b api.Type) (Proof, api.Errno) {
	if e := checkAsked(p, a, b); e != api.OK {
		return Proof{}, e
	}
	k := newAsker(p)
	d, ok := k.ask(question{pair: pair{a, b}})
	switch {
	case k.isOver():
		return Proof{}, api.ErrSteps
	case !ok:
		return Proof{}, api.ErrNone
	}
	return cloneProof(d), api.OK
}

func cloneProof(d Proof) Proof {
	d.A, d.B = clone(d.A), clone(d.B)
	for i, x := range d.Kids { // the list is the derivation's own
		d.Kids[i] = cloneProof(x)
	}
	return d
}
