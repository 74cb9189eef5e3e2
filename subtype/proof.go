package subtype

import (
	"hackamore/api"
	"hackamore/types"
)

// maxDepth is that of a derivation that is checked.
const maxDepth = 200

// Check returns the error of a derivation.
func Check(p []api.Entity, d Proof) api.Errno {
	if len(p) > api.MaxUnits || !isSmall(d) {
		return api.ErrSize
	}
	return newAsker(p).check(d, nil)
}

// isSmall reports whether a derivation is not too large. It looks at no more of it than it must.
func isSmall(d Proof) bool {
	left := 2 * MaxSteps
	var count func(d Proof, depth int) bool
	count = func(d Proof, depth int) bool {
		left--
		if left < 0 || depth > maxDepth {
			return false
		}
		for _, k := range d.Kids {
			if !count(k, depth+1) {
				return false
			}
		}
		return true
	}
	return count(d, 1)
}

// check checks a proof, and then its Kids; above are the questions of those of the rule Structure above it.
func (k *asker) check(d Proof, above *assumed) api.Errno {
	for _, t := range [...]api.Type{d.A, d.B} {
		if e := types.Check(t); e != api.OK {
			return e
		}
	}
	if d.Rule < Super || d.Rule > Param || d.N < 0 || d.N != 0 && !isNumbered(d.Rule) {
		return api.ErrArg
	}
	q := question{pair: pair{d.A, d.B}, above: above}
	l, e := k.asked(d, q)
	if e != api.OK {
		return e
	}
	if !derives(d.Kids, l) {
		return api.ErrForm
	}
	if d.Rule == Assumed && !above.has(q.pair) {
		return api.ErrScope
	}
	if d.Rule == Structure {
		above = &assumed{q.pair, above}
	}
	for _, x := range d.Kids {
		if e := k.check(x, above); e != api.OK {
			return e
		}
	}
	return api.OK
}

func isNumbered(rule int) bool { return rule == Super || rule == UnionOne || rule == BothOne }

// derives reports whether proofs are about questions, one by one.
func derives(kids []Proof, l []question) bool {
	if len(kids) != len(l) {
		return false
	}
	for i, x := range kids {
		if !l[i].equal(pair{x.A, x.B}) {
			return false
		}
	}
	return true
}

// asked returns the questions that a proof must have derivations of, or what is wrong with its types and its number.
func (k *asker) asked(d Proof, q question) ([]question, api.Errno) {
	a, b := q.a, q.b
	switch {
	case d.Rule == Super && a.Kind == api.TypeName && b.Kind == api.TypeName:
		return k.askedOfSuper(d.N, q)
	case d.Rule == Structure && a.Kind == api.TypeName && isInterface(k.p, b):
		return k.askedOfMethods(q)
	case d.Rule == Assumed && a.Kind == api.TypeName && isInterface(k.p, b):
		return nil, fitting(fits(a, b))
	case d.Rule == UnionAll && a.Kind == api.TypeUnion:
		return eachOf(q, a.Args, nil), api.OK
	case d.Rule == BothAll && b.Kind == api.TypeBoth:
		return eachOf(q, nil, b.Args), api.OK
	case d.Rule == UnionOne && b.Kind == api.TypeUnion && d.N < len(b.Args):
		return eachOf(q, nil, b.Args[d.N:d.N+1]), api.OK
	case d.Rule == BothOne && a.Kind == api.TypeBoth && d.N < len(a.Args):
		return eachOf(q, a.Args[d.N:d.N+1], nil), api.OK
	case d.Rule == Tuple && areTuples(a, b):
		return eachOf(q, a.Args, b.Args), api.OK
	case d.Rule == Param && areParams(a, b):
		return nil, fitting(paramFits(a, b))
	}
	return nil, api.ErrForm
}

func fitting(ok bool) api.Errno {
	if !ok {
		return api.ErrCap
	}
	return api.OK
}

func (k *asker) askedOfSuper(n int, q question) ([]question, api.Errno) {
	l := k.supersOf(q.a)
	if n >= len(l) || !isInstance(l[n], q.b) {
		return nil, api.ErrForm
	}
	return sameArgs(q, l[n]), fitting(fits(q.a, q.b))
}

func (k *asker) askedOfMethods(q question) ([]question, api.Errno) {
	if !fits(q.a, q.b) {
		return nil, api.ErrCap
	}
	var out []question
	for _, n := range k.methodsOf(q.b) {
		m, ok := k.method(q.a, n.Name)
		if !ok {
			return nil, api.ErrForm
		}
		l, ok := questionsOf(m, n, false)
		if !ok {
			return nil, api.ErrCap
		}
		for _, next := range l {
			out = append(out, question{pair: next})
		}
	}
	return out, api.OK
}
