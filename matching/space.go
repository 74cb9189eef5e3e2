package matching

import (
	"cmp"
	"math/bits"
	"slices"
	"strconv"
	"strings"

	"hackamore/api"
)

// leafSet has a bit for each leaf.
type leafSet [(api.MaxUnits + 63) / 64]uint64

func (l leafSet) has(leaf int) bool { return l[leaf/64]>>(leaf%64)&1 == 1 }

func (l leafSet) with(leaf int) leafSet {
	l[leaf/64] |= 1 << (leaf % 64)
	return l
}

// list returns the leaves, ascending.
func (l leafSet) list() []int {
	var out []int
	for i, word := range l {
		for ; word != 0; word &= word - 1 {
			out = append(out, 64*i+bits.TrailingZeros64(word))
		}
	}
	return out
}

// set is a set of values: its leaves, and the numbers of its tuples of 2, 3 and 4 elements.
type set struct {
	leaves leafSet
	tuples [mostTuple - leastTuple + 1]int
}

// of returns the number of the tuples of a size.
func (x set) of(size int) int { return x.tuples[size-leastTuple] }

// group has values that can stand first in tuples, and the rests that can stand behind them: the number of a set of values,
// or that of tuples with one element less.
type group struct{ first, rest int }

// Operations on sets.
const (
	both = iota
	less
	union
)

// operation is one on two sets of tuples of a size; those of size 1 are sets of values.
type operation struct{ op, size, a, b int }

// nothing is the number of the set without values, and of no tuples.
const nothing = 0

// space keeps sets, each once: two with the same values have the same number. So a set of tuples is a list of groups, apart
// from one another, whose rests are different, by ascending numbers of these; what was done once is not done again.
type space struct {
	sets   []set
	tuples [][]group
	known
	bounded bool // panics where a normal form becomes too large
}

// known has the numbers of sets, and of tuples by the texts of their sizes and groups, and what was found of them.
type known struct {
	setNumbers   map[set]int
	tupleNumbers map[string]int
	done         map[operation]int
	mixed        map[string]int
	found        map[string]bool
	sorted       map[int][]group
	compared     map[[2]int]int
	sizes        map[int]count
}

func newSpace() *space {
	s := &space{known: known{
		map[set]int{}, map[string]int{}, map[operation]int{}, map[string]int{}, map[string]bool{}, map[int][]group{}, map[[2]int]int{}, map[int]count{},
	}}
	s.add(set{})
	s.tuples = append(s.tuples, nil)
	return s
}

// add returns the number of a set.
func (s *space) add(x set) int {
	n, ok := s.setNumbers[x]
	if !ok {
		n = len(s.sets)
		s.sets = append(s.sets, x)
		s.setNumbers[x] = n
	}
	return n
}

// addTuples returns the number of tuples: rests are the keys, what stands ahead of them are the elements.
func (s *space) addTuples(size int, firsts map[int]int) int {
	var l []group
	for rest, first := range firsts {
		if rest != nothing && first != nothing {
			l = append(l, group{first, rest})
		}
	}
	if len(l) == 0 {
		return nothing
	}
	slices.SortFunc(l, func(a, b group) int { return cmp.Compare(a.rest, b.rest) })
	var key strings.Builder
	key.WriteString(strconv.Itoa(size))
	for _, g := range l {
		key.WriteString(" " + strconv.Itoa(g.first) + " " + strconv.Itoa(g.rest))
	}
	n, ok := s.tupleNumbers[key.String()]
	if !ok {
		n = len(s.tuples)
		s.tuples = append(s.tuples, l)
		s.tupleNumbers[key.String()] = n
	}
	return n
}

// each returns the numbers of what the parts of a right pattern take, one by one.
func (s *space) each(p Pattern) []int {
	var out []int
	for _, part := range p {
		var x set
		for _, n := range part.Leaves {
			x.leaves = x.leaves.with(n)
		}
		if len(part.Kids) > 0 {
			var kids []int
			for _, k := range part.Kids {
				n := s.of(k)
				kids = append(kids, n)
			}
			x.tuples[len(kids)-leastTuple] = s.product(kids)
		}
		if n := s.add(x); n != nothing {
			out = append(out, n)
		}
	}
	return distinct(out)
}

// of returns the number of what a right pattern takes. No limit holds for it: it may be less in the end.
func (s *space) of(p Pattern) int {
	bounded := s.bounded
	s.bounded = false
	n := s.mix(mixture{size: 1, in: s.each(p)})
	s.bounded = bounded
	return n
}

// product returns the number of the tuples whose elements are of sets, one by one.
func (s *space) product(kids []int) int {
	out := kids[len(kids)-1]
	for i := len(kids) - 2; i >= 0; i-- {
		out = s.addTuples(len(kids)-i, map[int]int{out: kids[i]})
	}
	return out
}

// combine returns the number of what an operation makes of two sets of tuples of a size.
func (s *space) combine(op, size, a, b int) int {
	switch {
	case a == b && op == less, a == nothing && op != union, b == nothing && op == both:
		return nothing
	case a == b, b == nothing:
		return a
	case a == nothing:
		return b
	}
	o := operation{op, size, a, b}
	n, ok := s.done[o]
	if !ok {
		if size == 1 {
			n = s.combineSets(o)
		} else {
			n = s.combineTuples(o)
		}
		s.done[o] = n
	}
	return n
}

func (s *space) combineSets(o operation) int {
	a, b := s.sets[o.a], s.sets[o.b]
	var x set
	for i := range x.leaves {
		switch o.op {
		case both:
			x.leaves[i] = a.leaves[i] & b.leaves[i]
		case less:
			x.leaves[i] = a.leaves[i] &^ b.leaves[i]
		case union:
			x.leaves[i] = a.leaves[i] | b.leaves[i]
		}
	}
	for i := range x.tuples {
		x.tuples[i] = s.combine(o.op, i+leastTuple, a.tuples[i], b.tuples[i])
	}
	return s.add(x)
}

// combineTuples combines the rests of what two groups have both; groups with the same rest become one.
func (s *space) combineTuples(o operation) int {
	firsts := map[int]int{}
	put := func(first, rest int) { firsts[rest] = s.combine(union, 1, firsts[rest], first) }
	a, b := s.tuples[o.a], s.tuples[o.b]
	alone := map[group]int{}
	for _, x := range a {
		left := x.first
		for _, y := range b {
			common := s.combine(both, 1, x.first, y.first)
			if common != nothing {
				rest := s.combine(o.op, o.size-1, x.rest, y.rest)
				put(common, rest)
				left = s.combine(less, 1, left, common)
			}
		}
		alone[x] = left
	}
	if o.op == both {
		return s.addTuples(o.size, firsts)
	}
	for _, x := range a {
		put(alone[x], x.rest)
	}
	if o.op == union {
		for _, y := range b {
			left := y.first
			for _, x := range a {
				left = s.combine(less, 1, left, x.first)
			}
			put(left, y.rest)
		}
	}
	return s.addTuples(o.size, firsts)
}
