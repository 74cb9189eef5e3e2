package ssa

import (
	"math/bits"
	"slices"

	"hackamore/api"
)

// blockSet is a set of blocks.
type blockSet [(maxBlocks + 63) / 64]uint64

func (s *blockSet) has(b int) bool { return s[b/64]>>(b%64)&1 != 0 }

// add puts a block into the set, and reports whether it is new.
func (s *blockSet) add(b int) bool {
	if s.has(b) {
		return false
	}
	s[b/64] |= 1 << (b % 64)
	return true
}

// list returns the blocks of the set, ascending.
func (s *blockSet) list() []int {
	var l []int
	for i, word := range s {
		for ; word != 0; word &= word - 1 {
			l = append(l, i*64+bits.TrailingZeros64(word))
		}
	}
	return l
}

// graph is a function whose shape is right, and what its ends tell: the predecessors of each block, the blocks that are reached in reverse postorder, the place of each one in it (-1: not reached), the immediate dominators, and the numbers of blocks by which dominance is asked: the first and the last one in a walk of their tree.
type graph struct {
	f           Func
	preds       [][]int
	order       []int
	place       []int
	up          []int
	first, last []int
}

func newGraph(f Func) *graph {
	g := &graph{f: f, preds: make([][]int, len(f.Blocks))}
	for b, x := range f.Blocks {
		for _, to := range x.End.To {
			g.preds[to] = append(g.preds[to], b)
		}
	}
	g.sort()
	g.findDominators()
	g.number()
	return g
}

// sort finds the order of the blocks that are reached.
func (g *graph) sort() {
	var seen blockSet
	var walk func(b int)
	walk = func(b int) {
		for _, to := range g.f.Blocks[b].End.To {
			if seen.add(to) {
				walk(to)
			}
		}
		g.order = append(g.order, b)
	}
	seen.add(0)
	walk(0)
	slices.Reverse(g.order)
	g.place = slices.Repeat([]int{-1}, len(g.f.Blocks))
	for i, b := range g.order {
		g.place[b] = i
	}
}

// findDominators goes through the blocks until no immediate dominator changes any more.
func (g *graph) findDominators() {
	const unknown = -2
	g.up = slices.Repeat([]int{unknown}, len(g.f.Blocks))
	g.up[0] = 0
	for changed := true; changed; {
		changed = false
		for _, b := range g.order[1:] {
			best := unknown
		ahead:
			for _, p := range g.preds[b] {
				switch {
				case g.place[p] < 0 || g.up[p] == unknown:
					continue ahead
				case best == unknown:
					best = p
				default:
					best = g.meet(best, p)
				}
			}
			changed = changed || best != g.up[b]
			g.up[b] = best
		}
	}
	for b := range g.up {
		if b == 0 || g.place[b] < 0 {
			g.up[b] = -1
		}
	}
}

// meet returns the last block that dominates both.
func (g *graph) meet(a, b int) int {
	for a != b {
		for g.place[a] > g.place[b] {
			a = g.up[a]
		}
		for g.place[b] > g.place[a] {
			b = g.up[b]
		}
	}
	return a
}

// tree returns the blocks that each block dominates immediately, in the order of the blocks.
func (g *graph) tree() [][]int {
	kids := make([][]int, len(g.f.Blocks))
	for b, up := range g.up {
		if up >= 0 {
			kids[up] = append(kids[up], b)
		}
	}
	return kids
}

// number numbers the blocks by a walk of the tree of dominators.
func (g *graph) number() {
	kids := g.tree()
	g.first, g.last = make([]int, len(kids)), make([]int, len(kids))
	n := 0
	var walk func(b int)
	walk = func(b int) {
		n++
		g.first[b] = n
		for _, k := range kids[b] {
			walk(k)
		}
		g.last[b] = n
	}
	walk(0)
}

// dominates reports whether one block that is reached dominates another one.
func (g *graph) dominates(a, b int) bool {
	return g.first[a] <= g.first[b] && g.first[b] <= g.last[a]
}

// spot is a place in a function: a block, and an index among its instructions (-1: ahead of all of them).
type spot struct{ block, at int }

// nowhere is where a value is made that nothing makes.
var nowhere = spot{-1, 0}

// made returns where each value is made.
func (g *graph) made() []spot {
	l := slices.Repeat([]spot{nowhere}, count(g.f))
	for i := range g.f.Params {
		l[i] = spot{0, -1}
	}
	for b, x := range g.f.Blocks {
		for i, y := range x.Ins {
			l[y.Result] = spot{b, i}
		}
		if x.End.Kind == Try {
			l[x.End.Call.Result] = spot{x.End.To[0], -1}
		}
	}
	return l
}

// count returns the greatest value that there is, and 1 more.
func count(f Func) int {
	n := len(f.Params)
	for _, b := range f.Blocks {
		for _, x := range b.Ins {
			n = max(n, x.Result+1)
		}
		if b.End.Kind == Try {
			n = max(n, b.End.Call.Result+1)
		}
	}
	return n
}

// isThere reports whether a value is there at a spot.
func (g *graph) isThere(value int, at spot, made []spot) bool {
	if value >= len(made) || made[value] == nowhere {
		return false
	}
	m := made[value]
	if m.block == at.block {
		return m.at < at.at
	}
	return g.dominates(m.block, at.block)
}

func (g *graph) areThere(values []int, at spot, made []spot) bool {
	for _, v := range values {
		if !g.isThere(v, at, made) {
			return false
		}
	}
	return true
}

// graphOf returns the graph of a function that is right.
func graphOf(f Func) (*graph, api.Errno) {
	if _, e := checkShape(f); e != api.OK {
		return nil, e
	}
	g := newGraph(f)
	if _, e := g.check(); e != api.OK {
		return nil, e
	}
	return g, api.OK
}

// Preds returns the blocks ahead of each block, each once for each way.
func Preds(f Func) ([][]int, api.Errno) {
	g, e := graphOf(f)
	if e != api.OK {
		return nil, e
	}
	return g.preds, api.OK
}

// Order returns the reached blocks in reverse postorder.
func Order(f Func) ([]int, api.Errno) {
	g, e := graphOf(f)
	if e != api.OK {
		return nil, e
	}
	return g.order, api.OK
}

// Dominators returns the immediate dominator of each block, -1 for the first one.
func Dominators(f Func) ([]int, api.Errno) {
	g, e := graphOf(f)
	if e != api.OK {
		return nil, e
	}
	return g.up, api.OK
}

// Dominates reports whether each way to a block goes through another one.
func Dominates(f Func, a, b int) (bool, api.Errno) {
	g, e := graphOf(f)
	if e != api.OK {
		return false, e
	}
	if n := len(f.Blocks); a < 0 || a >= n || b < 0 || b >= n {
		return false, api.ErrNone
	}
	return g.dominates(a, b), api.OK
}

// Frontier returns the dominance frontier of each block.
func Frontier(f Func) ([][]int, api.Errno) {
	g, e := graphOf(f)
	if e != api.OK {
		return nil, e
	}
	out := make([][]int, len(f.Blocks))
	for b, s := range g.frontiers() {
		out[b] = s.list()
	}
	return out, api.OK
}

// frontiers goes up from each predecessor of a block as far as it is not dominated.
func (g *graph) frontiers() []blockSet {
	out := make([]blockSet, len(g.f.Blocks))
	for b, preds := range g.preds {
		for _, p := range preds {
			for a := p; a != g.up[b]; a = g.up[a] {
				out[a].add(b)
			}
		}
	}
	return out
}

// Loops returns the heads of loops, and the blocks of each loop.
func Loops(f Func) (heads []int, blocks [][]int, e api.Errno) {
	g, e := graphOf(f)
	if e != api.OK {
		return nil, nil, e
	}
	for h, preds := range g.preds {
		var work []int
		for _, p := range preds {
			if g.dominates(h, p) {
				work = append(work, p)
			}
		}
		if len(work) == 0 {
			continue
		}
		heads = append(heads, h)
		blocks = append(blocks, g.loop(h, work))
	}
	return heads, blocks, api.OK
}

// loop returns a head, and the blocks from which the end of the loop is reached without passing it.
func (g *graph) loop(head int, work []int) []int {
	var in blockSet
	in.add(head)
	for len(work) > 0 {
		b := work[len(work)-1]
		work = work[:len(work)-1]
		if in.add(b) {
			work = append(work, g.preds[b]...)
		}
	}
	return in.list()
}
