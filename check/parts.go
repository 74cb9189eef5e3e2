package check

import (
	"hackamore/api"
	"hackamore/types"
)

// parts returns the parts of a type: what is reached through unions, intersections, tuples, and the right sides of arrows.
func parts(t api.Type) []api.Type {
	var l []api.Type
	var walk func(t api.Type)
	walk = func(t api.Type) {
		switch t.Kind {
		case api.TypeUnion, api.TypeBoth, api.TypeTuple:
			for _, a := range t.Args {
				walk(a)
			}
		case api.TypeArrow:
			for _, a := range t.Args[min(1, len(t.Args)):] {
				walk(a)
			}
		default:
			l = append(l, t)
		}
	}
	walk(t)
	return l
}

// isEven reports whether in each intersection of a type all parts have one capability and one mark.
func isEven(t api.Type) bool {
	if t.Kind == api.TypeBoth {
		l := parts(t)
		for _, x := range l {
			if x.Cap != l[0].Cap || x.Mark != l[0].Mark {
				return false
			}
		}
	}
	for _, a := range t.Args {
		if !isEven(a) {
			return false
		}
	}
	return true
}

func hasArrows(t api.Type) bool {
	if t.Kind == api.TypeArrow {
		return true
	}
	for _, a := range t.Args {
		if hasArrows(a) {
			return true
		}
	}
	return false
}

// isHeld reports whether fields and local variables may have a type.
func isHeld(t api.Type) bool { return types.Reified(t) && !hasArrows(t) && isEven(t) }

// counts returns what counts of the capability of a type with its mark.
func counts(t api.Type) int {
	switch {
	case t.Mark == api.Aliased && t.Cap == api.Iso:
		return api.Tag
	case t.Mark == api.Aliased && t.Cap == api.Trn:
		return api.Box
	}
	return t.Cap
}

// copied returns a type that shares no memory with another one, if it is a right one. (Others may be too large to be copied.)
func copied(t api.Type) api.Type {
	if c, e := types.Subst(t, nil, nil); e == api.OK {
		return c
	}
	return t
}
