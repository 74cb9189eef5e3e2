package matching

import (
	"hackamore/api"
	"hackamore/subtype"
)

func isConcrete(e api.Entity) bool {
	return e.Kind == api.Class || e.Kind == api.Actor || e.Kind == api.Primitive
}

// Leaves returns the concrete entities of a program without type parameters, which are the leaves of Of.
func Leaves(p []api.Entity) []string {
	if len(p) > api.MaxUnits {
		return nil
	}
	var l []string
	for _, e := range p {
		if isConcrete(e) {
			l = append(l, e.Name)
		}
	}
	return l
}

// Of returns the pattern of a type in such a program, without regard to capabilities.
func Of(p []api.Entity, t api.Type) (Pattern, api.Errno) {
	if len(p) > api.MaxUnits {
		return nil, api.ErrSize
	}
	if e := checkType(p, t, 0); e != api.OK {
		return nil, e
	}
	return normal(func(s *space) int {
		s.bounded = false // what is made of parts may be less in the end
		n := typed{s, p, Leaves(p)}.of(t)
		s.bounded = true
		return n
	})
}

// checkType returns the error of a type that stands within so many tuples.
func checkType(p []api.Entity, t api.Type, within int) api.Errno {
	args := t.Args
	switch t.Kind {
	case api.TypeParam, api.TypeSelf:
		return api.ErrType
	case api.TypeName:
		if len(args) > 0 {
			return api.ErrForm
		}
		_, e := subtype.Find(p, t.Name)
		return e
	case api.TypeUnion, api.TypeBoth, api.TypeTuple:
		if len(args) < 2 {
			return api.ErrForm
		}
	case api.TypeArrow:
		if len(args) != 2 {
			return api.ErrForm
		}
		args = args[1:]
	default:
		return api.ErrForm
	}
	if t.Kind == api.TypeTuple {
		within++
		if len(args) > mostTuple || within == maxDepth {
			return ErrPattern
		}
	}
	for _, a := range args {
		if e := checkType(p, a, within); e != api.OK {
			return e
		}
	}
	return api.OK
}

// typed makes sets of right types of a program.
type typed struct {
	*space
	p      []api.Entity
	leaves []string
}

// of returns the number of the set of a type's values.
func (x typed) of(t api.Type) int {
	switch t.Kind {
	case api.TypeName:
		return x.add(set{leaves: x.named(t.Name)})
	case api.TypeArrow:
		return x.of(t.Args[1])
	case api.TypeTuple:
		var kids []int
		for _, a := range t.Args {
			n := x.of(a)
			kids = append(kids, n)
		}
		var out set
		out.tuples[len(kids)-leastTuple] = x.product(kids)
		return x.add(out)
	}
	var l []int
	for _, a := range t.Args {
		if n := x.of(a); n != nothing || t.Kind == api.TypeBoth {
			l = append(l, n)
		}
	}
	if t.Kind == api.TypeUnion {
		return x.mix(mixture{size: 1, in: distinct(l)})
	}
	out := l[0]
	for _, n := range l[1:] {
		out = x.combine(both, 1, out, n)
	}
	return out
}

// named returns the leaves of an entity: itself, or all that are subtypes of it.
func (x typed) named(name string) leafSet {
	var l leafSet
	i, _ := subtype.Find(x.p, name)
	asked := api.Type{Kind: api.TypeName, Name: name, Cap: api.Val}
	for n, leaf := range x.leaves {
		own := api.Type{Kind: api.TypeName, Name: leaf, Cap: api.Val}
		if isConcrete(x.p[i]) && leaf == name || !isConcrete(x.p[i]) && subtype.Bare(x.p, own, asked) {
			l = l.with(n)
			if isConcrete(x.p[i]) {
				break
			}
		}
	}
	return l
}
