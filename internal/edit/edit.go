// Package edit changes functions of the intermediate form: it knows what becomes of blocks and of the arguments of phis, and not when a change may be made. The passes, and the rules by which their steps are checked, do with it what they have found.
package edit

import (
	"iter"
	"slices"

	"hackamore/ssa"
)

// Copy returns a function that shares no list of instructions, Args or targets with the one that is handed in.
func Copy(f ssa.Func) ssa.Func {
	f.Blocks = slices.Clone(f.Blocks)
	for b := range f.Blocks {
		x := &f.Blocks[b]
		x.Ins = slices.Clone(x.Ins)
		for i := range x.Ins {
			x.Ins[i].Args = slices.Clone(x.Ins[i].Args)
		}
		x.End.Args, x.End.To, x.End.Call.Args = slices.Clone(x.End.Args), slices.Clone(x.End.To), slices.Clone(x.End.Call.Args)
	}
	return f
}

// Place is where an instruction stands: a block, and its index there.
type Place struct{ Block, At int }

// Find returns the place of the instruction that makes a value; false for parameters, values that a try makes, and what nothing makes.
func Find(f ssa.Func, value int) (Place, bool) {
	for b, x := range f.Blocks {
		for i, y := range x.Ins {
			if y.Result == value {
				return Place{b, i}, true
			}
		}
	}
	return Place{}, false
}

// Count returns the first number that is above all values of a function.
func Count(f ssa.Func) int {
	n := len(f.Params)
	for _, b := range f.Blocks {
		for _, x := range b.Ins {
			n = max(n, x.Result+1)
		}
		if b.End.Kind == ssa.Try {
			n = max(n, b.End.Call.Result+1)
		}
	}
	return n
}

// Lists hands on all lists of Args of a function, with the number of their value (-1 for the end's own), so that they can be changed.
func Lists(f *ssa.Func) iter.Seq2[int, []int] {
	return func(yield func(int, []int) bool) {
		for b := range f.Blocks {
			x := &f.Blocks[b]
			for i := range x.Ins {
				if !yield(x.Ins[i].Result, x.Ins[i].Args) {
					return
				}
			}
			if !yield(-1, x.End.Args) || x.End.Kind == ssa.Try && !yield(x.End.Call.Result, x.End.Call.Args) {
				return
			}
		}
	}
}

// Replace puts one value in the place of another one in all Args of a function.
func Replace(f *ssa.Func, from, to int) {
	for _, l := range Lists(f) {
		for i, v := range l {
			if v == from {
				l[i] = to
			}
		}
	}
}

// Remove takes an instruction out.
func Remove(f *ssa.Func, at Place) {
	x := &f.Blocks[at.Block]
	x.Ins = slices.Delete(x.Ins, at.At, at.At+1)
}
