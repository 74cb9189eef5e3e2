package ssa

import (
	"iter"

	"hackamore/api"
)

// use is a use of a value: it has to be there at the spot.
type use struct {
	value int
	at    spot
}

// uses hands on all uses: in the order of instructions, those of a phi at the ends of the blocks ahead.
func (g *graph) uses() iter.Seq[use] {
	return func(yield func(use) bool) {
		for b, x := range g.f.Blocks {
			for i, y := range x.Ins {
				for k, a := range y.Args {
					at := spot{b, i}
					if y.Op == Phi {
						p := g.preds[b][k]
						at = spot{p, len(g.f.Blocks[p].Ins)}
					}
					if !yield(use{a, at}) {
						return
					}
				}
			}
			for _, l := range [2][]int{x.End.Args, x.End.Call.Args} {
				for _, a := range l {
					if !yield(use{a, spot{b, len(x.Ins)}}) {
						return
					}
				}
			}
		}
	}
}

// Live returns the values that are needed at the beginning of each block.
func Live(f Func) ([][]int, api.Errno) {
	g, e := graphOf(f)
	if e != api.OK {
		return nil, e
	}
	made := g.made()
	needed := make([]blockSet, len(made))
	for u := range g.uses() {
		g.need(&needed[u.value], u.at.block, made[u.value])
	}
	out := make([][]int, len(f.Blocks))
	for v := range needed {
		for _, b := range needed[v].list() {
			out[b] = append(out[b], v)
		}
	}
	return out, api.OK
}

// need puts the blocks into a set at whose beginning a value is needed that is used in a block: those from there back to the one in which it is made. A parameter is made ahead of the first one.
func (g *graph) need(in *blockSet, block int, made spot) {
	isParam := made == spot{0, -1}
	work := []int{block}
	for len(work) > 0 {
		b := work[len(work)-1]
		work = work[:len(work)-1]
		if b == made.block && !isParam || !in.add(b) {
			continue
		}
		work = append(work, g.preds[b]...)
	}
}

// Uses returns how often each value is used.
func Uses(f Func) ([]int, api.Errno) {
	if _, e := CheckFunc(f); e != api.OK {
		return nil, e
	}
	return countUses(f), api.OK
}

func countUses(f Func) []int {
	n := make([]int, count(f))
	for _, b := range f.Blocks {
		for _, x := range b.Ins {
			for _, a := range x.Args {
				n[a]++
			}
		}
		for _, l := range [2][]int{b.End.Args, b.End.Call.Args} {
			for _, a := range l {
				n[a]++
			}
		}
	}
	return n
}
