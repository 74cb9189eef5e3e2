package colour

import (
	"math/bits"
	"slices"

	"hackamore/api"
)

const words = (maxSelectors + 63) / 64

// set is a set of numbers from 0 to 499: selectors, or colours.
type set [words]uint64

func (s *set) has(i int) bool { return s[i/64]>>(i%64)&1 != 0 }

func (s *set) add(i int) { s[i/64] |= 1 << (i % 64) }

// least returns the least number that is not in the set.
func (s *set) least() int {
	for i, word := range s {
		if free := bits.TrailingZeros64(^word); free < 64 {
			return i*64 + free
		}
	}
	return maxSelectors
}

// list returns the numbers of the set, ascending.
func (s *set) list() []int {
	var l []int
	for i, word := range s {
		for ; word != 0; word &= word - 1 {
			l = append(l, i*64+bits.TrailingZeros64(word))
		}
	}
	return l
}

func (s *set) count() int {
	n := 0
	for _, word := range s {
		n += bits.OnesCount64(word)
	}
	return n
}

// graph says which selectors conflict: behind one another the words of each selector's set. Those that a class understands are in known.
type graph struct {
	words []uint64
	known set
}

// of returns the selectors that conflict with one.
func (g *graph) of(selector int) *set { return (*set)(g.words[selector*words:]) }

// graphOf returns the graph of a world that is right.
func graphOf(w World) *graph {
	g := &graph{words: make([]uint64, maxSelectors*words)}
	for _, l := range w.Classes {
		var all set
		for _, x := range l {
			all.add(x.Selector)
			g.known.add(x.Selector)
		}
		for _, x := range l {
			row := g.of(x.Selector)
			for i := range row {
				row[i] |= all[i]
			}
		}
	}
	for _, s := range g.known.list() {
		g.of(s)[s/64] &^= 1 << (s % 64)
	}
	return g
}

// size returns how many colours colours have: one for each selector up to the greatest one that a class understands.
func (g *graph) size() int {
	l := g.known.list()
	if len(l) == 0 {
		return 0
	}
	return l[len(l)-1] + 1
}

// free returns the least colour that none of those that conflict with a selector has.
func (g *graph) free(selector int, colours []int) int {
	var taken set
	for _, s := range g.of(selector).list() {
		if s < len(colours) && colours[s] >= 0 {
			taken.add(colours[s])
		}
	}
	return taken.least()
}

// Conflicts returns the pairs of selectors that one class understands.
func Conflicts(w World) ([][2]int, api.Errno) {
	if e := Check(w); e != api.OK {
		return nil, e
	}
	g := graphOf(w)
	var l [][2]int
	for _, a := range g.known.list() {
		for _, b := range g.of(a).list() {
			if a < b {
				l = append(l, [2]int{a, b})
			}
		}
	}
	return l, api.OK
}

// Colours returns a colour for each selector, -1 for those that no class understands. Those with the most conflicts choose first.
func Colours(w World) ([]int, api.Errno) {
	if e := Check(w); e != api.OK {
		return nil, e
	}
	g := graphOf(w)
	colours := slices.Repeat([]int{-1}, g.size())
	order := g.known.list()
	slices.SortStableFunc(order, func(a, b int) int { return g.of(b).count() - g.of(a).count() })
	for _, s := range order {
		colours[s] = g.free(s, colours)
	}
	return colours, api.OK
}

// check returns the error of colours.
func (g *graph) check(colours []int) api.Errno {
	if len(colours) != g.size() {
		return api.ErrSize
	}
	for s, c := range colours {
		if g.known.has(s) != (c != -1) || c < -1 || c >= maxSelectors {
			return api.ErrRange
		}
	}
	for s := range colours {
		for _, other := range g.of(s).list() {
			if colours[s] == colours[other] {
				return ErrClash
			}
		}
	}
	return api.OK
}

// coloured returns the graph of a world, or the error of it, or of its colours.
func coloured(w World, colours []int) (*graph, api.Errno) {
	if e := Check(w); e != api.OK {
		return nil, e
	}
	g := graphOf(w)
	if e := g.check(colours); e != api.OK {
		return nil, e
	}
	return g, api.OK
}

// CheckColours returns the error of colours.
func CheckColours(w World, colours []int) api.Errno {
	_, e := coloured(w, colours)
	return e
}

// Least returns how many colours are needed at least.
func Least(w World) (int, api.Errno) {
	if e := Check(w); e != api.OK {
		return 0, e
	}
	g := graphOf(w)
	order := g.known.list()
	if len(order) > maxSearched {
		return 0, api.ErrFull
	}
	n := 0
	for !g.isEnough(order, n) {
		n++
	}
	return n, api.OK
}

// isEnough reports whether so many colours are enough for some selectors, by a search in which each one tries those that were chosen ahead, and one new one.
func (g *graph) isEnough(order []int, n int) bool {
	colours := slices.Repeat([]int{-1}, g.size())
	var choose func(at, used int) bool
	choose = func(at, used int) bool {
		if at == len(order) {
			return true
		}
		found := false
	search:
		for c := range min(used+1, n) {
			for _, other := range g.of(order[at]).list() {
				if colours[other] == c {
					continue search
				}
			}
			colours[order[at]] = c
			if found = choose(at+1, max(used, c+1)); found {
				break search
			}
			colours[order[at]] = -1
		}
		return found
	}
	return choose(0, 0)
}

// Grow returns the colours behind another class, and the selectors whose colours have changed.
func Grow(w World, colours []int, class []Entry) (next, changed []int, e api.Errno) {
	if _, e := coloured(w, colours); e != api.OK {
		return nil, nil, e
	}
	w.Classes = append(slices.Clone(w.Classes), class)
	if e := Check(w); e != api.OK {
		return nil, nil, e
	}
	g := graphOf(w)
	next = slices.Repeat([]int{-1}, g.size())
	copy(next, colours)
	var own set // the colours of the class so far
	for _, x := range class {
		s := x.Selector
		had := next[s] >= 0
		if !had || own.has(next[s]) {
			next[s] = g.free(s, next)
			if next[s] >= maxSelectors {
				return nil, nil, api.ErrFull
			}
			if had {
				changed = append(changed, s)
			}
		}
		own.add(next[s])
	}
	return next, changed, api.OK
}
