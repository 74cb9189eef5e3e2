package types

import (
	"slices"
	"strings"

	"hackamore/api"
)

// Normal returns the normal form of a type.
func Normal(t api.Type) (api.Type, api.Errno) {
	if e := Check(t); e != api.OK {
		return api.Type{}, e
	}
	return result(normal(t))
}

// Union returns the normal form of the union of types.
func Union(l []api.Type) (api.Type, api.Errno) {
	if len(l) == 0 {
		return api.Type{}, api.ErrArg
	}
	if e := checkAll(l); e != api.OK {
		return api.Type{}, e
	}
	return result(normal(api.Type{Kind: api.TypeUnion, Args: l}))
}

// normal is Normal of right types, and of unions of them; the form that it returns may be too large.
func normal(t api.Type) (api.Type, api.Errno) {
	var args []api.Type
	for _, a := range t.Args {
		n, e := normal(a)
		if e != api.OK {
			return api.Type{}, e
		}
		args = append(args, n)
	}
	t.Args = args
	switch t.Kind {
	case api.TypeUnion, api.TypeBoth:
		return sorted(t), api.OK
	case api.TypeArrow:
		if first := t.Args[0]; first.Kind == api.TypeSelf && first.Cap != api.CapNone {
			x, e := seenFrom(first, t.Args[1])
			if e != api.OK {
				return api.Type{}, e
			}
			return normal(x)
		}
	}
	if !hasMarks(t.Cap) {
		t.Mark = api.Plain
	}
	return t, api.OK
}

// hasMarks reports whether marks play a part for a capability, or for one that is not known yet.
func hasMarks(c int) bool { return c == api.CapNone || c == api.Iso || c == api.Trn }

// sorted returns a union, or an intersection, of normal types in order, or the only one of them.
func sorted(t api.Type) api.Type {
	type keyed struct {
		text string
		t    api.Type
	}
	var l []keyed
	for _, a := range t.Args {
		if a.Kind != t.Kind {
			l = append(l, keyed{text(a), a})
			continue
		}
		for _, b := range a.Args {
			l = append(l, keyed{text(b), b})
		}
	}
	slices.SortStableFunc(l, func(a, b keyed) int { return strings.Compare(a.text, b.text) })
	l = slices.CompactFunc(l, func(a, b keyed) bool { return a.text == b.text })
	if len(l) == 1 {
		return l[0].t
	}
	t.Args = nil
	for _, k := range l {
		t.Args = append(t.Args, k.t)
	}
	return t
}
