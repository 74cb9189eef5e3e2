package check

import (
	"hackamore/api"
	"hackamore/cap"
	"hackamore/subtype"
	"hackamore/types"
)

// Claims reports whether values of a type can be bound with another one by a match.
func Claims(p []api.Entity, operand, claim api.Type) bool {
	return newComparer(p).mayClaim(operand, claim)
}

// set has the concrete entities of a program that a type takes, as bits by their indices. Of a program that is too large no entity is taken.
type set [(api.MaxUnits + 63) / 64]uint64

func (s set) add(i int) set {
	s[i/64] |= 1 << (i % 64)
	return s
}

func (s set) with(t set) set {
	for i := range s {
		s[i] |= t[i]
	}
	return s
}

func (s set) both(t set) set {
	for i := range s {
		s[i] &= t[i]
	}
	return s
}

// comparer compares types; it keeps what they take by their texts.
type comparer struct {
	p     []api.Entity
	taken map[string]set
}

func newComparer(p []api.Entity) comparer { return comparer{p, map[string]set{}} }

// mayClaim is Claims.
func (c comparer) mayClaim(operand, claim api.Type) bool {
	return types.Check(operand) == api.OK && types.Check(claim) == api.OK && c.claims(operand, claim)
}

// alternatives returns those of a type: the Args of unions, or itself.
func alternatives(t api.Type) []api.Type {
	if t.Kind != api.TypeUnion {
		return []api.Type{t}
	}
	var l []api.Type
	for _, a := range t.Args {
		l = append(l, alternatives(a)...)
	}
	return l
}

// claims is Claims for right types.
func (c comparer) claims(operand, claim api.Type) bool {
	for _, x := range alternatives(operand) {
		for _, y := range alternatives(claim) {
			if !c.agree(x, y) {
				return false
			}
		}
	}
	return true
}

// agree reports whether values of one alternative may be bound with another one.
func (c comparer) agree(x, y api.Type) bool {
	isTuple, other := x.Kind == api.TypeTuple, y.Kind == api.TypeTuple
	switch {
	case isTuple && other:
		return len(x.Args) != len(y.Args) || c.agreeEach(x.Args, y.Args)
	case hasTuple(x) && hasTuple(y):
		return false
	case isTuple || other:
		return true
	case x.Kind == api.TypeName && y.Kind == api.TypeName && cap.Fits(x.Cap, x.Mark, y.Cap, y.Mark):
		return true
	}
	return !c.common(x, y)
}

// agreeEach reports whether the elements of two tuples agree, or keep them apart.
func (c comparer) agreeEach(xs, ys []api.Type) bool {
	all := true
	for i, x := range xs {
		if !c.common(x, ys[i]) {
			return true
		}
		all = all && c.claims(x, ys[i])
	}
	return all
}

// hasTuple reports whether a type is a tuple, or a union or an intersection of which a part has one.
func hasTuple(t api.Type) bool {
	if t.Kind == api.TypeUnion || t.Kind == api.TypeBoth {
		for _, a := range t.Args {
			if hasTuple(a) {
				return true
			}
		}
	}
	return t.Kind == api.TypeTuple
}

// common reports whether two types have something in common.
func (c comparer) common(s, t api.Type) bool {
	for _, x := range alternatives(s) {
		for _, y := range alternatives(t) {
			if c.overlap(x, y) {
				return true
			}
		}
	}
	return false
}

func (c comparer) overlap(x, y api.Type) bool {
	if x.Kind != api.TypeTuple || y.Kind != api.TypeTuple || len(x.Args) != len(y.Args) {
		return c.takenBy(x).both(c.takenBy(y)) != set{}
	}
	for i, a := range x.Args {
		if !c.common(a, y.Args[i]) {
			return false
		}
	}
	return true
}

// takenBy returns the concrete entities that a type takes.
func (c comparer) takenBy(t api.Type) set {
	switch t.Kind {
	case api.TypeUnion:
		var s set
		for _, a := range t.Args {
			s = s.with(c.takenBy(a))
		}
		return s
	case api.TypeBoth:
		s := c.takenBy(t.Args[0])
		for _, a := range t.Args[1:] {
			s = s.both(c.takenBy(a))
		}
		return s
	}
	text, _ := types.Text(t)
	s, ok := c.taken[text]
	if !ok && len(c.p) <= api.MaxUnits {
		for i, entity := range c.p {
			if isConcrete(entity.Kind) && subtype.Bare(c.p, named(entity.Name, api.Ref), t) {
				s = s.add(i)
			}
		}
		c.taken[text] = s
	}
	return s
}
