package matching

import (
	"cmp"
	"iter"
	"slices"

	"hackamore/api"
)

// ends says how one list is ahead of another one: by an element, or since it is the beginning of it.
const (
	aheadAsBeginning  = -2
	ahead             = -1
	equal             = 0
	behind            = 1
	behindAsBeginning = 2
)

// compare returns the order of the normal forms of two sets.
func (s *space) compare(a, b int) int {
	if a == b {
		return equal
	}
	at := [2]int{a, b}
	c, ok := s.compared[at]
	if !ok {
		c = s.compareParts(s.sets[a], s.sets[b])
		s.compared[at] = c
	}
	return c
}

// compareParts compares parts by kinds; what has parts of a kind is ahead of what has only later ones, and behind what has none.
func (s *space) compareParts(a, b set) int {
	la, lb := a.leaves.list(), b.leaves.list()
	if len(la) > 0 && len(lb) > 0 {
		if c := slices.Compare(la, lb); c != equal {
			return c
		}
	} else if len(la) > 0 {
		return beside(b.hasTuples(leastTuple))
	} else if len(lb) > 0 {
		return -beside(a.hasTuples(leastTuple))
	}
	for size := leastTuple; size <= mostTuple; size++ {
		x, y := a.of(size), b.of(size)
		switch {
		case x == y:
		case y == nothing:
			return beside(b.hasTuples(size + 1))
		case x == nothing:
			return -beside(a.hasTuples(size + 1))
		default:
			switch c := s.compareTuples(size, x, y); c {
			case aheadAsBeginning:
				return -beside(a.hasTuples(size + 1))
			case behindAsBeginning:
				return beside(b.hasTuples(size + 1))
			default:
				return c
			}
		}
	}
	return equal
}

// beside is the order of a list with a part beside another one that goes on with later parts, or ends.
func beside(goesOn bool) int {
	if goesOn {
		return ahead
	}
	return behind
}

// hasTuples reports whether a set has tuples of a size, or larger ones.
func (x set) hasTuples(size int) bool {
	for ; size <= mostTuple; size++ {
		if x.of(size) != nothing {
			return true
		}
	}
	return false
}

// compareTuples compares the lists of parts that the normal forms of tuples have.
func (s *space) compareTuples(size, a, b int) int {
	if size == 1 || a == b {
		return s.compare(a, b)
	}
	la, lb := s.groups(a), s.groups(b)
	for i := range min(len(la), len(lb)) {
		if c := s.compare(la[i].first, lb[i].first); c != equal {
			return c
		}
		c := s.compareTuples(size-1, la[i].rest, lb[i].rest)
		switch {
		case c == aheadAsBeginning && i+1 < len(la): // the next part has a first Kid that is behind
			return behind
		case c == behindAsBeginning && i+1 < len(lb):
			return ahead
		case c != equal:
			return c
		}
	}
	return 2 * cmp.Compare(len(la), len(lb))
}

// groups returns the groups of tuples in the order of their first Kids.
func (s *space) groups(tuples int) []group {
	l, ok := s.sorted[tuples]
	if !ok {
		l = slices.Clone(s.tuples[tuples])
		slices.SortFunc(l, func(a, b group) int { return s.compare(a.first, b.first) })
		s.sorted[tuples] = l
	}
	return l
}

// rows hands on the parts that the normal form of tuples has: the sets of their Kids, which must be copied to be kept.
func (s *space) rows(size, tuples int) iter.Seq[[]int] {
	return func(yield func([]int) bool) {
		row := make([]int, 0, mostTuple)
		var fill func(size, rest int) bool
		fill = func(size, rest int) bool {
			if size == 1 {
				return yield(append(row, rest))
			}
			at := len(row)
			for _, g := range s.groups(rest) {
				row = append(row[:at], g.first)
				if !fill(size-1, g.rest) {
					return false
				}
			}
			row = row[:at]
			return true
		}
		if tuples != nothing {
			fill(size, tuples)
		}
	}
}

// values hands on the values of a set, in the order of its normal form.
func (s *space) values(n int) iter.Seq[Value] {
	return func(yield func(Value) bool) {
		for _, leaf := range s.sets[n].leaves.list() {
			if !yield(Value{Leaf: leaf}) {
				return
			}
		}
		for size := leastTuple; size <= mostTuple; size++ {
			for row := range s.rows(size, s.sets[n].of(size)) {
				if !s.fill(row, nil, yield) {
					return
				}
			}
		}
	}
}

// fill hands on the tuples of elements ahead and those of sets behind them.
func (s *space) fill(row []int, kids []Value, yield func(Value) bool) bool {
	if len(row) == 0 {
		return yield(Value{Kids: slices.Clone(kids)})
	}
	for v := range s.values(row[0]) {
		if !s.fill(row[1:], append(slices.Clip(kids), v), yield) {
			return false
		}
	}
	return true
}

// count is how many parts the normal form of a set has, together with those of all patterns in it; of tuples also, without these.
type count struct{ rows, parts int }

// endless is a count that is too large to go on.
const endless = 1 << 30

// count counts the parts of a set, or of tuples of a size.
func (s *space) count(size, n int) count {
	key := n // tuples have numbers of their own
	if size == 1 {
		key = -n
	}
	if c, ok := s.sizes[key]; ok || n == nothing {
		return c
	}
	var c count
	if size == 1 {
		x := s.sets[n]
		if x.leaves != (leafSet{}) {
			c.parts++
		}
		for k := leastTuple; k <= mostTuple; k++ {
			c.parts += s.count(k, x.of(k)).parts
		}
	} else {
		for _, g := range s.tuples[n] {
			first, rest := s.count(1, g.first), s.count(size-1, g.rest)
			if size == 2 {
				rest = count{1, rest.parts + 1}
			}
			c.rows = min(endless, c.rows+rest.rows)
			c.parts = min(endless, c.parts+rest.parts+min(endless, rest.rows)*min(endless, first.parts))
		}
	}
	c.parts = min(endless, c.parts)
	s.sizes[key] = c
	return c
}

// tooLarge is what a bounded space panics with.
type tooLarge struct{}

// bound ends what makes a normal form whose part has so many parts, if the space is bounded.
func (s *space) bound(parts int) {
	if s.bounded && parts > maxMade {
		panic(tooLarge{})
	}
}

// pattern returns the normal form of a set.
func (s *space) pattern(n int) Pattern {
	var p Pattern
	if l := s.sets[n].leaves.list(); len(l) > 0 {
		p = append(p, Part{Leaves: l})
	}
	for size := leastTuple; size <= mostTuple; size++ {
		for row := range s.rows(size, s.sets[n].of(size)) {
			var part Part
			for _, k := range row {
				part.Kids = append(part.Kids, s.pattern(k))
			}
			p = append(p, part)
		}
	}
	return p
}

// normal returns the normal form of what make makes.
func normal(make func(s *space) int) (p Pattern, e api.Errno) {
	defer func() {
		if x := recover(); x != nil {
			p, e = nil, api.ErrLarge
		}
	}()
	s := newSpace()
	s.bounded = true
	n := make(s)
	s.bound(s.count(1, n).parts)
	return s.pattern(n), api.OK
}

// checkTwo returns the first error of two patterns.
func checkTwo(leaves int, p, q Pattern) api.Errno {
	return firstOf(Check(leaves, p), func() api.Errno { return check(leaves, q) })
}

// Normal returns the pattern with the same values, whose parts are apart and in order.
func Normal(leaves int, p Pattern) (Pattern, api.Errno) {
	if e := Check(leaves, p); e != api.OK {
		return nil, e
	}
	return normal(func(s *space) int { return s.mix(mixture{size: 1, in: s.each(p)}) })
}

// Both returns a pattern that takes what two patterns both take.
func Both(leaves int, p, q Pattern) (Pattern, api.Errno) {
	if e := checkTwo(leaves, p, q); e != api.OK {
		return nil, e
	}
	return normal(func(s *space) int {
		return s.mix(mixture{size: 1, in: s.each(p), also: s.each(q), narrowed: true})
	})
}

// Less returns a pattern that takes what only the first pattern takes.
func Less(leaves int, p, q Pattern) (Pattern, api.Errno) {
	if e := checkTwo(leaves, p, q); e != api.OK {
		return nil, e
	}
	return normal(func(s *space) int { return s.mix(mixture{size: 1, in: s.each(p), out: s.each(q)}) })
}

// Within reports whether a pattern takes all that another one takes.
func Within(leaves int, p, q Pattern) (bool, api.Errno) {
	if e := checkTwo(leaves, p, q); e != api.OK {
		return false, e
	}
	s := newSpace()
	return !s.has(mixture{size: 1, in: s.each(q), out: s.each(p)}), api.OK
}
