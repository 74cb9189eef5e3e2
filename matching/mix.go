package matching

import (
	"slices"
	"strconv"
	"strings"
)

// mixture is what one of the sets (or of the tuples of a size) of in has, none of out, and, if narrowed, one of also.
type mixture struct {
	size          int
	in, also, out []int
	narrowed      bool
}

// distinct returns numbers ascending, each once, in the place of the list.
func distinct(l []int) []int {
	slices.Sort(l)
	return slices.Compact(l)
}

// isEmpty reports whether a mixture has nothing for sure.
func (q mixture) isEmpty() bool { return len(q.in) == 0 || q.narrowed && len(q.also) == 0 }

// isOne reports whether a mixture is the one set of in.
func (q mixture) isOne() bool { return len(q.in) == 1 && len(q.out) == 0 && !q.narrowed }

func (q mixture) key() string {
	var w strings.Builder
	w.WriteString(strconv.Itoa(q.size))
	for _, l := range [...][]int{q.in, q.also, q.out} {
		w.WriteByte('|')
		for _, n := range l {
			w.WriteString(strconv.Itoa(n) + " ")
		}
	}
	w.WriteString(strconv.FormatBool(q.narrowed))
	return w.String()
}

// leaves returns the leaves of a mixture of sets.
func (s *space) leaves(q mixture) leafSet {
	all := func(l []int) (x leafSet) {
		for _, n := range l {
			for i, word := range s.sets[n].leaves {
				x[i] |= word
			}
		}
		return x
	}
	in, also, out := all(q.in), all(q.also), all(q.out)
	for i := range in {
		in[i] &^= out[i]
		if q.narrowed {
			in[i] &= also[i]
		}
	}
	return in
}

// inside returns the mixture of the tuples of a size that a mixture of sets has.
func (s *space) inside(q mixture, size int) mixture {
	tuples := func(l []int) []int {
		var out []int
		for _, n := range l {
			if k := s.sets[n].of(size); k != nothing {
				out = append(out, k)
			}
		}
		return distinct(out)
	}
	in := tuples(q.in)
	if len(in) == 0 {
		return mixture{size: size}
	}
	return mixture{size, in, tuples(q.also), tuples(q.out), q.narrowed}
}

// side is one of the lists of a mixture.
const (
	sideIn = iota
	sideAlso
	sideOut
)

// sided is a group of tuples that stand on a side of a mixture.
type sided struct {
	group
	side int
}

func (s *space) sided(q mixture) []sided {
	var out []sided
	for side, l := range [...][]int{q.in, q.also, q.out} {
		for _, n := range l {
			for _, g := range s.tuples[n] {
				out = append(out, sided{g, side})
			}
		}
	}
	return out
}

// atom has values that stand first in the same groups: in those whose bytes are 1.
type atom struct {
	first  int
	groups string
}

// behind returns the mixture of the rests behind an atom.
func (q mixture) behind(l []sided, a atom) mixture {
	rests := [3][]int{}
	for i, g := range l { // a group has a rest, so none is nothing
		if a.groups[i] == 1 {
			rests[g.side] = append(rests[g.side], g.rest)
		}
	}
	return mixture{q.size - 1, distinct(rests[sideIn]), distinct(rests[sideAlso]), distinct(rests[sideOut]), q.narrowed}
}

// leafAtoms returns the atoms of the leaves that stand first in groups of in, in the order of their first leaves.
func (s *space) leafAtoms(l []sided) []atom {
	var may leafSet
	for _, g := range l {
		if g.side == sideIn {
			for i, word := range s.sets[g.first].leaves {
				may[i] |= word
			}
		}
	}
	var order []string
	sets := map[string]leafSet{}
	groups := make([]byte, len(l))
	for _, leaf := range may.list() {
		for i, g := range l {
			groups[i] = byte(s.sets[g.first].leaves[leaf/64] >> (leaf % 64) & 1)
		}
		key := string(groups)
		if _, ok := sets[key]; !ok {
			order = append(order, key)
		}
		sets[key] = sets[key].with(leaf)
	}
	var out []atom
	for _, key := range order {
		n := s.add(set{leaves: sets[key]})
		out = append(out, atom{n, key})
	}
	return out
}

// tupleAtoms returns those of the tuples that stand first in groups of in.
func (s *space) tupleAtoms(l []sided) []atom {
	rest := nothing // what stands in none of the groups so far
	bare := func(g sided) int { return s.add(set{tuples: s.sets[g.first].tuples}) }
	for _, g := range l {
		if g.side == sideIn {
			n := bare(g)
			rest = s.combine(union, 1, rest, n)
		}
	}
	if rest == nothing {
		return nil
	}
	out := []atom{{first: rest}}
	for _, g := range l {
		n := bare(g)
		var next []atom
		for _, a := range out {
			with, without := s.combine(both, 1, a.first, n), s.combine(less, 1, a.first, n)
			if with != nothing {
				next = append(next, atom{with, a.groups + "\x01"})
			}
			if without != nothing {
				next = append(next, atom{without, a.groups + "\x00"})
			}
		}
		out = next
	}
	return out
}

// mix returns the number of a mixture.
func (s *space) mix(q mixture) int {
	if q.isEmpty() {
		return nothing
	}
	n := q.in[0]
	if !q.isOne() {
		key := q.key()
		var ok bool
		if n, ok = s.mixed[key]; !ok {
			n = s.mixNew(q)
			s.mixed[key] = n
		}
	}
	s.bound(s.count(q.size, n).parts)
	return n
}

// mixNew is mix for what was not mixed yet.
func (s *space) mixNew(q mixture) int {
	if q.size == 1 {
		x := set{leaves: s.leaves(q)}
		for i := range x.tuples {
			x.tuples[i] = s.mix(s.inside(q, i+leastTuple))
		}
		return s.add(x)
	}
	l := s.sided(q)
	firsts := map[int]int{}
	parts := 0
	for _, a := range append(s.leafAtoms(l), s.tupleAtoms(l)...) {
		rest := s.mix(q.behind(l, a))
		if _, twice := firsts[rest]; !twice {
			parts += s.count(q.size-1, rest).parts
			s.bound(parts)
		}
		firsts[rest] = s.combine(union, 1, firsts[rest], a.first)
	}
	return s.addTuples(q.size, firsts)
}

// has reports whether a mixture has anything. What is asked of sets is asked of their tuples: of these the answers are kept.
func (s *space) has(q mixture) bool {
	if q.isEmpty() {
		return false
	}
	if q.isOne() {
		return true
	}
	if q.size == 1 {
		return s.hasNew(q)
	}
	key := q.key()
	is, ok := s.found[key]
	if !ok {
		is = s.hasNew(q)
		s.found[key] = is
	}
	return is
}

// hasNew is has for what was not asked yet.
func (s *space) hasNew(q mixture) bool {
	if q.size == 1 {
		if s.leaves(q) != (leafSet{}) {
			return true
		}
		for size := leastTuple; size <= mostTuple; size++ {
			if s.has(s.inside(q, size)) {
				return true
			}
		}
		return false
	}
	l := s.sided(q)
	behind := func(a atom) bool { return s.has(q.behind(l, a)) }
	return slices.ContainsFunc(s.leafAtoms(l), behind) || s.hasNested(q, l)
}

// first returns the first value of a mixture of sets, in the order of its normal form.
func (s *space) first(q mixture) (Value, bool) {
	if l := s.leaves(q).list(); len(l) > 0 {
		return Value{Leaf: l[0]}, true
	}
	for size := leastTuple; size <= mostTuple; size++ {
		if kids, ok := s.firstTuple(s.inside(q, size)); ok {
			return Value{Kids: kids}, true
		}
	}
	return Value{}, false
}

// firstTuple returns the elements of the first tuple. A group with leaves is ahead of others, and that with the least one ahead of all;
// only groups without leaves must be compared by their normal forms.
func (s *space) firstTuple(q mixture) ([]Value, bool) {
	if q.size == 1 {
		v, ok := s.first(q)
		return []Value{v}, ok
	}
	if !s.has(q) {
		return nil, false
	}
	l := s.sided(q)
	for _, a := range s.leafAtoms(l) {
		rest := q.behind(l, a)
		if !s.has(rest) {
			continue
		}
		kids, ok := s.firstTuple(rest)
		return append([]Value{{Leaf: s.sets[a.first].leaves.list()[0]}}, kids...), ok
	}
	var x set
	x.tuples[q.size-leastTuple] = s.mix(q)
	for v := range s.values(s.add(x)) {
		return v.Kids, true
	}
	return nil, false
}
