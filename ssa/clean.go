package ssa

import (
	"slices"

	"hackamore/api"
	"hackamore/internal/same"
)

// nothing is the number of a value that nothing makes in a function that was cleaned: more are never made.
const nothing = maxValue

// numbers returns the number of each value in the order of the instructions, a try's behind those of its block.
func numbers(f Func) map[int]int {
	to := map[int]int{}
	for i := range f.Params {
		to[i] = i
	}
	for _, b := range f.Blocks {
		for _, x := range b.Ins {
			to[x.Result] = len(to)
		}
		if b.End.Kind == Try {
			to[b.End.Call.Result] = len(to)
		}
	}
	return to
}

// numbered returns the new number of a value.
func numbered(to map[int]int, v int) int {
	if n, ok := to[v]; ok {
		return n
	}
	return nothing
}

func renamed(l []int, to map[int]int) []int {
	var out []int
	for _, v := range l {
		out = append(out, numbered(to, v))
	}
	return out
}

func renamedIns(x Ins, to map[int]int) Ins {
	x.Args = renamed(x.Args, to)
	x.Result = numbered(to, x.Result)
	return x
}

func mapped[A, B any](l []A, f func(A) B) []B {
	var out []B
	for _, x := range l {
		out = append(out, f(x))
	}
	return out
}

// cleaned returns a function whose shape is right without the blocks that nothing reaches, and with new numbers.
func cleaned(f Func) Func {
	g := newGraph(f)
	f = g.reached()
	to := numbers(f)
	for i, b := range f.Blocks {
		var l []Ins
		for _, x := range b.Ins {
			l = append(l, renamedIns(x, to))
		}
		end := b.End
		end.Args, end.To = renamed(end.Args, to), slices.Clone(end.To)
		if end.Kind == Try {
			end.Call = renamedIns(end.Call, to)
		}
		f.Blocks[i] = Block{l, end}
	}
	f.Params = slices.Clone(f.Params)
	return f
}

// reached returns the function without the blocks that nothing reaches.
func (g *graph) reached() Func {
	f := g.f
	place := make([]int, len(f.Blocks))
	f.Blocks = nil
	for b := range place {
		place[b] = len(f.Blocks)
		if g.place[b] >= 0 {
			f.Blocks = append(f.Blocks, g.withoutGone(b))
		}
	}
	for b := range f.Blocks {
		for k, to := range f.Blocks[b].End.To {
			f.Blocks[b].End.To[k] = place[to]
		}
	}
	return f
}

// withoutGone returns a block whose phis have no arguments for blocks that nothing reaches.
func (g *graph) withoutGone(b int) Block {
	x, preds := g.f.Blocks[b], g.preds[b]
	x.Ins, x.End.To = slices.Clone(x.Ins), slices.Clone(x.End.To)
	for i, y := range x.Ins {
		if y.Op != Phi || len(y.Args) != len(preds) {
			continue
		}
		var args []int
		for k, p := range preds {
			if g.place[p] >= 0 {
				args = append(args, y.Args[k])
			}
		}
		x.Ins[i].Args = args
	}
	return x
}

// Clean returns a function without blocks that nothing reaches, with its values numbered in order.
func Clean(f Func) (Func, api.Errno) {
	if _, e := checkShape(f); e != api.OK {
		return Func{}, e
	}
	return checked(cleaned(f))
}

// checked returns a function, if it is right.
func checked(f Func) (Func, api.Errno) {
	if _, e := CheckFunc(f); e != api.OK {
		return Func{}, e
	}
	return f, api.OK
}

// comparison compares two functions, whose values have the numbers of both tables.
type comparison struct{ to, from map[int]int }

// Equal reports whether two functions are equal but for the numbers of their values.
func Equal(f, g Func) bool {
	if _, e := checkShape(f); e != api.OK {
		return false
	}
	if _, e := checkShape(g); e != api.OK {
		return false
	}
	c := comparison{numbers(f), numbers(g)}
	return f.Name == g.Name && f.Partial == g.Partial && same.Type(f.Result, g.Result) &&
		slices.EqualFunc(f.Params, g.Params, same.Type) && slices.EqualFunc(f.Blocks, g.Blocks, c.sameBlock)
}

func (c comparison) sameBlock(a, b Block) bool {
	return slices.EqualFunc(a.Ins, b.Ins, c.sameIns) && a.End.Kind == b.End.Kind && c.sameArgs(a.End.Args, b.End.Args) &&
		slices.Equal(a.End.To, b.End.To) && c.sameIns(a.End.Call, b.End.Call)
}

func (c comparison) sameIns(a, b Ins) bool {
	return a.Op == b.Op && same.Type(a.Type, b.Type) && c.sameArgs(a.Args, b.Args) && a.Text == b.Text && a.Name == b.Name &&
		same.Value(a.Lit, b.Lit) && a.N == b.N && a.Flag == b.Flag
}

func (c comparison) sameArgs(a, b []int) bool {
	return slices.EqualFunc(a, b, func(v, w int) bool { return numbered(c.to, v) == numbered(c.from, w) })
}
