package matching

import "slices"

// search looks for a tuple of a size that groups leave: its first element is in first and in none of noFirst, and its rest likewise.
// Each list that grows is a new one.
type search struct {
	*space
	size             int
	first, rest      int
	noFirst, noRests []int
}

// hasNested reports whether a mixture has a tuple whose first element is a tuple. It is looked for in one group of in at a time:
// most groups of out have nothing in common with it, while there may be very many atoms of all groups together.
func (s *space) hasNested(q mixture, l []sided) bool {
	var in, also, out []group
	for _, g := range l {
		bare := group{s.add(set{tuples: s.sets[g.first].tuples}), g.rest}
		switch {
		case bare.first == nothing:
		case g.side == sideIn:
			in = append(in, bare)
		case g.side == sideAlso:
			also = append(also, bare)
		default:
			out = append(out, bare)
		}
	}
	for _, g := range in {
		within := []group{g}
		if q.narrowed {
			within = s.common(g, q.size, also)
		}
		for _, x := range within {
			if (search{space: s, size: q.size, first: x.first, rest: x.rest}).isLeft(s.common(x, q.size, out)) {
				return true
			}
		}
	}
	return false
}

// common returns what a group of tuples of a size has in common with others, one by one, where it has anything.
func (s *space) common(g group, size int, l []group) []group {
	var out []group
	for _, x := range l {
		first := s.combine(both, 1, g.first, x.first)
		if first == nothing {
			continue
		}
		if rest := s.combine(both, size-1, g.rest, x.rest); rest != nothing {
			out = append(out, group{first, rest})
		}
	}
	return out
}

// touches reports whether a group takes anything of what is looked for.
func (x search) touches(g group) bool {
	return x.has(mixture{1, []int{x.first}, []int{g.first}, x.noFirst, true}) && x.has(mixture{x.size - 1, []int{x.rest}, []int{g.rest}, x.noRests, true})
}

// beside returns the search for what has a first element that is not in a group; false, if there is none.
func (x search) beside(g group) (search, bool) {
	x.noFirst = distinct(append(slices.Clone(x.noFirst), g.first))
	return x, x.has(mixture{size: 1, in: []int{x.first}, out: x.noFirst})
}

// behind returns the search for what has a first element that is in a group it touches, and a rest that is not; false, if there is no such rest.
func (x search) behind(g group) (search, bool) {
	x.first = x.combine(both, 1, x.first, g.first)
	x.noRests = distinct(append(slices.Clone(x.noRests), g.rest))
	return x, x.has(mixture{size: x.size - 1, in: []int{x.rest}, out: x.noRests})
}

// isLeftAtOnce reports whether a tuple that none of groups takes is found without trying more than one way around each.
func (x search) isLeftAtOnce(out []group) bool {
	for _, g := range out {
		if !x.touches(g) {
			continue
		}
		next, ok := x.beside(g)
		if !ok {
			next, ok = x.behind(g)
		}
		if !ok {
			return false
		}
		x = next
	}
	return true
}

// isLeft reports whether there is a tuple that none of groups takes. Groups around which there is one way alone are passed ahead of the others.
func (x search) isLeft(out []group) bool {
	if x.isLeftAtOnce(out) {
		return true
	}
	for {
		var open []group
		for _, g := range out {
			if !x.touches(g) {
				continue
			}
			a, mayStandBeside := x.beside(g)
			b, mayStandBehind := x.behind(g)
			switch {
			case mayStandBeside && mayStandBehind:
				open = append(open, g)
			case mayStandBeside:
				x = a
			case mayStandBehind:
				x = b
			default:
				return false
			}
		}
		if len(open) == len(out) {
			break
		}
		out = open
	}
	if len(out) == 0 {
		return true
	}
	a, _ := x.beside(out[0])
	b, _ := x.behind(out[0])
	return a.isLeft(out[1:]) || b.isLeft(out[1:])
}
