package optimize

import (
	"slices"

	"hackamore/api"
	"hackamore/internal/edit"
	"hackamore/ssa"
)

// alike is what instructions have in common that may be alike: it does not tell all of Lit, Type and Args. A phi is alike only to those of its block.
type alike struct {
	op, n, block, args int
	first              [3]int
	text, name         string
	flag               bool
	kind               int
	lo, hi             uint64
	typ                string
}

func alikeOf(x ssa.Ins, block int) alike {
	k := alike{op: x.Op, n: x.N, args: len(x.Args), text: x.Text, name: x.Name, flag: x.Flag, kind: x.Lit.Kind, lo: x.Lit.Lo, hi: x.Lit.Hi, typ: x.Type.Name}
	copy(k.first[:], x.Args)
	if x.Op == ssa.Phi {
		k.block = block
	}
	return k
}

// placed is an instruction that stands somewhere.
type placed struct {
	*ssa.Ins
	at edit.Place
}

// common finds instructions that are equal to others.
func (o *optimizer) common() { o.each((*work).commonSweep) }

// tree is asked which block dominates which other one.
type tree struct{ up, depth []int }

func (w *work) tree() tree {
	up, e := ssa.Dominators(*w.Func)
	if e != api.OK {
		panic(e)
	}
	t := tree{up, make([]int, len(up))}
	for b := range up {
		for a := b; up[a] >= 0; a = up[a] {
			t.depth[b]++
		}
	}
	return t
}

func (t tree) dominates(a, b int) bool {
	for t.depth[b] > t.depth[a] {
		b = t.up[b]
	}
	return a == b
}

// isAhead reports whether what one instruction makes is there at another one, and so wherever the other one's value is.
func (t tree) isAhead(a, b edit.Place) bool {
	if a.Block == b.Block {
		return a.At < b.At
	}
	return t.dominates(a.Block, b.Block)
}

// commonSweep goes through the instructions once, in an order in which what dominates comes first. Of two that are equal one may go if it stands behind the other one, or if nothing uses it.
func (w *work) commonSweep() bool {
	order, e := ssa.Order(*w.Func)
	if e != api.OK {
		panic(e)
	}
	t, m, l := w.tree(), w.made(), w.names()
	groups := map[alike][]placed{}
	gone := map[int]bool{}
	for _, b := range order {
		for i := range w.Blocks[b].Ins {
			x := placed{&w.Blocks[b].Ins[i], edit.Place{Block: b, At: i}}
			l.rename(x.Args)
			if !isPure(*x.Ins) && x.Op != ssa.Phi {
				continue
			}
			key := alikeOf(*x.Ins, b)
			groups[key] = w.meet(x, groups[key], t, m, l, gone)
		}
	}
	l.write(w)
	for b := range w.Blocks {
		x := &w.Blocks[b]
		x.Ins = slices.DeleteFunc(x.Ins, func(y ssa.Ins) bool { return gone[y.Result] })
	}
	return len(gone) > 0
}

// meet compares an instruction with those that came ahead, and returns those that are left.
func (w *work) meet(x placed, ahead []placed, t tree, m *made, l names, gone map[int]bool) []placed {
	goes := func(a, b placed) {
		w.step(Step{Kind: StepCommon, A: a.Result, B: b.Result})
		l[a.Result] = b.Result
		m.uses[b.Result] += m.uses[a.Result]
		gone[a.Result] = true
		for _, v := range a.Args {
			if v != a.Result {
				m.uses[l.of(v)]--
			}
		}
	}
others:
	for i, y := range ahead {
		if !edit.Same(*x.Ins, *y.Ins) || w.isFull() {
			continue others
		}
		switch {
		case t.isAhead(y.at, x.at) || m.uses[x.Result] == 0:
			goes(x, y)
			return ahead
		case m.uses[y.Result] == 0:
			goes(y, x)
			return append(slices.Delete(slices.Clone(ahead), i, i+1), x)
		}
	}
	return append(ahead, x)
}
