package optimize

import (
	"slices"
	"strings"

	"hackamore/api"
	"hackamore/internal/edit"
	"hackamore/internal/same"
	"hackamore/num"
	"hackamore/ssa"
)

// copies finds values that are just other ones, and drops what nothing uses.
func (o *optimizer) copies() {
	o.each(func(w *work) bool {
		isDropped := w.drop()
		isCopied := w.copySweep()
		return isDropped || isCopied
	})
}

// copySweep looks at each phi and each item once.
func (w *work) copySweep() bool {
	m, l := w.made(), w.names()
	found := false
	for b := range w.Blocks {
		for i := range w.Blocks[b].Ins {
			x := &w.Blocks[b].Ins[i]
			l.rename(x.Args)
			if to := m.copyOf(x, l); to >= 0 && !w.isFull() {
				w.step(Step{Kind: StepCopy, A: x.Result, B: to})
				l[x.Result] = to
				l.rename(x.Args)
				found = true
			}
		}
	}
	l.write(w)
	return found
}

// copyOf returns the value that a phi or an item just is; -1, if it is one of its own.
func (m *made) copyOf(x *ssa.Ins, l names) int {
	to := -1
	switch x.Op {
	case ssa.Phi:
		for _, v := range x.Args {
			switch {
			case v == x.Result:
			case to >= 0 && to != v:
				return -1
			default:
				to = v
			}
		}
	case ssa.Item:
		if y := m.ins[x.Args[0]]; y != nil && y.Op == ssa.Tuple && x.N < len(y.Args) {
			to = l.of(y.Args[x.N])
		}
	}
	return to
}

// fold computes with constants, and goes the ways that they choose.
func (o *optimizer) fold() {
	o.each(func(w *work) bool {
		isFolded := w.foldSweep()
		isBranched := w.branchSweep()
		return isFolded || isBranched
	})
}

// foldSweep looks at each instruction once.
func (w *work) foldSweep() bool {
	m := w.made()
	found := false
	for b := range w.Blocks {
		for i := range w.Blocks[b].Ins {
			x := &w.Blocks[b].Ins[i]
			lit, ok := m.folded(x)
			if !ok || w.isFull() {
				continue
			}
			*x = ssa.Ins{Op: ssa.Const, Result: x.Result, Type: x.Type, Lit: lit}
			w.step(Step{Kind: StepFold, A: x.Result, Lit: lit})
			found = true
		}
	}
	return found
}

// folded returns the constant that an instruction over constants gives.
func (m *made) folded(x *ssa.Ins) (api.Value, bool) {
	if x.Op != ssa.Native && x.Op != ssa.Is {
		return api.Value{}, false
	}
	var l []api.Value
	for _, v := range x.Args {
		c, ok := m.constant(v)
		if !ok {
			return api.Value{}, false
		}
		l = append(l, c)
	}
	if x.Op == ssa.Is {
		return boolean(same.Value(l[0], l[1])), true
	}
	typ, method, ok := strings.Cut(x.Text, ".")
	v, raised, e := num.Call(typ, method, l)
	return v, ok && e == api.OK && !raised
}

func boolean(b bool) api.Value {
	v := api.Value{Kind: api.ValBool}
	if b {
		v.Lo = 1
	}
	return v
}

// branchSweep makes jumps of branches that have one way.
func (w *work) branchSweep() bool {
	found := false
	m := w.made()
	for b := 0; b < len(w.Blocks); b++ {
		to := w.oneWay(b, m)
		if to < 0 || w.isFull() {
			continue
		}
		w.step(Step{Kind: StepBranch, A: b, B: to})
		edit.Keep(w.Func, b, to)
		m = w.made()
		b, found = -1, true // blocks may be gone
	}
	return found
}

// oneWay returns the way that a branch always goes, -1 if there is none.
func (w *work) oneWay(block int, m *made) int {
	end := w.Blocks[block].End
	if end.Kind != ssa.Branch {
		return -1
	}
	c, ok := m.constant(end.Args[0])
	for to, known := range [2]api.Value{boolean(true), boolean(false)} {
		if ok && same.Value(c, known) {
			return to
		}
	}
	if end.To[0] != end.To[1] {
		return -1
	}
	l := edit.Edges(*w.Func)[end.To[0]]
	one, two := slices.Index(l, edit.Edge{Block: block, Index: 0}), slices.Index(l, edit.Edge{Block: block, Index: 1})
	for _, x := range w.Blocks[end.To[0]].Ins {
		if x.Op == ssa.Phi && x.Args[one] != x.Args[two] {
			return -1
		}
	}
	return 0
}

// dead drops what nothing uses, and joins blocks.
func (o *optimizer) dead() {
	o.each(func(w *work) bool {
		isDropped := w.drop()
		isJoined := w.joinSweep()
		return isDropped || isJoined
	})
}

// joinSweep joins each block with the ones behind it to which nothing else goes.
func (w *work) joinSweep() bool {
	found := false
	for b := 0; b < len(w.Blocks); b++ {
		for end := w.Blocks[b].End; end.Kind == ssa.Jump && end.To[0] != b && len(edit.Edges(*w.Func)[end.To[0]]) == 1 && !w.isFull(); end = w.Blocks[b].End {
			w.step(Step{Kind: StepJoin, A: b})
			edit.Join(w.Func, b)
			found = true
			if end.To[0] < b { // a block ahead is gone
				b--
			}
		}
	}
	return found
}

// devirt finds the calls of methods that can reach one function alone.
func (o *optimizer) devirt() {
	o.each(func(w *work) bool {
		m := w.made()
		tried := map[int]api.Type{}
		for _, b := range w.Blocks {
			if b.End.Kind == ssa.Try {
				tried[b.End.Call.Result] = b.End.Call.Type
			}
		}
		typeOf := func(v int) api.Type {
			switch {
			case v < len(w.Params):
				return w.Params[v]
			case m.ins[v] != nil:
				return m.ins[v].Type
			}
			return tried[v]
		}
		for b := range w.Blocks {
			x := &w.Blocks[b]
			for i := range x.Ins {
				w.direct(&x.Ins[i], typeOf)
			}
			w.direct(&x.End.Call, typeOf)
		}
		return false
	})
}

// direct makes a direct of a call, if it can reach one function alone.
func (w *work) direct(x *ssa.Ins, typeOf func(int) api.Type) {
	if x.Op != ssa.Call || w.isFull() {
		return
	}
	l, e := w.finder.Targets(typeOf(x.Args[0]), x.Text)
	if e != api.OK || len(l) != 1 || w.params[l[0]] != len(x.Args) {
		return
	}
	w.step(Step{Kind: StepDirect, A: x.Result, Text: l[0]})
	x.Op, x.Text = ssa.Direct, l[0]
}

// escaping returns the values that may be met elsewhere, if they are objects.
func (w *work) escaping() map[int]bool {
	out := map[int]bool{}
	note := func(x ssa.Ins) {
		for i, v := range x.Args {
			switch {
			case x.Op == ssa.Get, x.Op == ssa.Set && i == 0, x.Op == ssa.Is, x.Op == ssa.Fits:
			default:
				out[v] = true
			}
		}
	}
	for _, b := range w.Blocks {
		for _, x := range b.Ins {
			note(x)
		}
		note(ssa.Ins{Args: b.End.Args})
		note(b.End.Call)
	}
	return out
}

// escape finds the objects that stay on the stack.
func (o *optimizer) escape() {
	o.each(func(w *work) bool {
		escaping := w.escaping()
		for b := range w.Blocks {
			for i := range w.Blocks[b].Ins {
				x := &w.Blocks[b].Ins[i]
				if x.Op == ssa.Make && !x.Flag && !escaping[x.Result] && !w.isFull() {
					w.step(Step{Kind: StepStack, A: x.Result})
					x.Flag = true
				}
			}
		}
		return false
	})
}

// field is a field of an object of the function.
type field struct {
	object int
	name   string
}

// forward finds gets of what is known since the field was read or written ahead.
func (o *optimizer) forward() {
	o.each(func(w *work) bool {
		escaping, m := w.escaping(), w.made()
		isOwn := func(v int) bool { return m.ins[v] != nil && m.ins[v].Op == ssa.Make && !escaping[v] }
		l := w.names()
		gone := map[int]bool{}
		for b := range w.Blocks {
			known := map[field]int{}
			for i := range w.Blocks[b].Ins {
				x := &w.Blocks[b].Ins[i]
				l.rename(x.Args)
				if x.Op != ssa.Get && x.Op != ssa.Set || !isOwn(x.Args[0]) {
					continue
				}
				at := field{x.Args[0], x.Text}
				had, ok := known[at]
				switch {
				case x.Op == ssa.Set:
					known[at] = x.Args[1]
				case ok && !w.isFull():
					w.step(Step{Kind: StepField, A: x.Result, B: had})
					l[x.Result] = had
					gone[x.Result] = true
				default:
					known[at] = x.Result
				}
			}
		}
		l.write(w)
		for b := range w.Blocks {
			x := &w.Blocks[b]
			x.Ins = slices.DeleteFunc(x.Ins, func(y ssa.Ins) bool { return gone[y.Result] })
		}
		return len(gone) > 0
	})
}
