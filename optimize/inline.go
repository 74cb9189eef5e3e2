package optimize

import (
	"slices"

	"hackamore/api"
	"hackamore/internal/edit"
	"hackamore/ssa"
)

// directs returns how many direct calls of each function there are in a function.
func directs(f ssa.Func) map[string]int {
	n := map[string]int{}
	for _, b := range f.Blocks {
		for _, x := range append(slices.Clone(b.Ins), b.End.Call) {
			if x.Op == ssa.Direct {
				n[x.Text]++
			}
		}
	}
	return n
}

// inline puts functions in the place of calls, until none is left that should be.
func (o *optimizer) inline() {
	for found := true; found && !o.isFull(); {
		found = false
		wanted := o.wanted()
		o.each(func(w *work) bool {
			isInlined := w.inlineFirst(wanted)
			found = found || isInlined
			return isInlined
		})
	}
}

// wanted returns the functions that are to be put in the place of calls: small ones, and those that are called once.
func (o *optimizer) wanted() map[string]ssa.Func {
	calls := map[string]int{}
	for _, f := range o.p.Funcs {
		for name, n := range directs(f) {
			calls[name] += n
		}
	}
	out := map[string]ssa.Func{}
	for _, f := range o.p.Funcs {
		n := size(f)
		if n <= maxSmall || n <= maxInline && calls[f.Name] == 1 {
			if len(directs(f)) == 0 && isInlined(f) {
				out[f.Name] = edit.Copy(f)
			}
		}
	}
	return out
}

// isInlined reports whether a function may stand in the place of a call.
func isInlined(f ssa.Func) bool {
	returns := false
	for _, b := range f.Blocks {
		if b.End.Kind == ssa.Error {
			return false
		}
		returns = returns || b.End.Kind == ssa.Return
		for _, x := range b.Ins {
			if x.Op == ssa.Load || x.Op == ssa.Store {
				return false
			}
		}
	}
	return returns && !f.Partial
}

// inlineFirst puts a function in the place of the first call for which that may be done.
func (w *work) inlineFirst(wanted map[string]ssa.Func) bool {
	for b := range w.Blocks {
		for i, x := range w.Blocks[b].Ins {
			callee, ok := wanted[x.Text]
			if x.Op != ssa.Direct || !ok || x.Text == w.Name || size(*w.Func)+size(callee) > maxInto {
				continue
			}
			f := *w.Func
			edit.Inline(&f, edit.Place{Block: b, At: i}, callee)
			if _, e := ssa.CheckFunc(f); e != api.OK {
				continue
			}
			w.step(Step{Kind: StepInline, A: x.Result})
			*w.Func = f
			return true
		}
	}
	return false
}
