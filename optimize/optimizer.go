package optimize

import (
	"slices"

	"hackamore/api"
	"hackamore/internal/edit"
	"hackamore/internal/target"
	"hackamore/ssa"
)

// optimizer has a program that is being changed, whose functions are its own, and the steps that led to it.
type optimizer struct {
	p      ssa.Program
	steps  []Step
	finder *target.Finder
	params map[string]int // how many each function has
}

func newOptimizer(p ssa.Program) *optimizer {
	o := &optimizer{p: p, finder: target.Of(p), params: map[string]int{}}
	o.p.Funcs = nil
	for _, f := range p.Funcs {
		o.p.Funcs = append(o.p.Funcs, edit.Copy(f))
		o.params[f.Name] = len(f.Params)
	}
	return o
}

// run performs a pass. If it should fail, the program and the steps are those ahead of it.
func (o *optimizer) run(pass func(*optimizer)) {
	ahead, steps := slices.Clone(o.p.Funcs), len(o.steps)
	for i, f := range ahead {
		ahead[i] = edit.Copy(f)
	}
	defer func() {
		if x := recover(); x != nil {
			o.p.Funcs, o.steps = ahead, o.steps[:steps]
		}
	}()
	pass(o)
}

// isFull reports whether there are as many steps as layer 22 checks: then nothing more is done.
func (o *optimizer) isFull() bool { return len(o.steps) >= maxSteps }

// work is a function that is being changed.
type work struct {
	*optimizer
	*ssa.Func
	number int
}

// each performs something for each function, as long as it changes anything.
func (o *optimizer) each(pass func(w *work) bool) {
	for i := range o.p.Funcs {
		w := &work{o, &o.p.Funcs[i], i}
		for pass(w) && !o.isFull() {
		}
	}
}

func (w *work) step(s Step) {
	s.Func = w.number
	w.steps = append(w.steps, s)
}

// made is what is known of the values of a function: the instruction of each one (nil for parameters and what tries make), and in how many Args it stands but in those of its own instruction.
type made struct {
	ins  []*ssa.Ins
	uses []int
}

func (w *work) made() *made {
	n := edit.Count(*w.Func)
	m := &made{make([]*ssa.Ins, n), make([]int, n)}
	for b := range w.Blocks {
		for i := range w.Blocks[b].Ins {
			x := &w.Blocks[b].Ins[i]
			m.ins[x.Result] = x
		}
	}
	for result, l := range edit.Lists(w.Func) {
		for _, v := range l {
			if v != result {
				m.uses[v]++
			}
		}
	}
	return m
}

// constant returns the Lit of a const that makes a value.
func (m *made) constant(value int) (api.Value, bool) {
	x := m.ins[value]
	if x == nil || x.Op != ssa.Const {
		return api.Value{}, false
	}
	return x.Lit, true
}

// names says which values have become which other ones: a forest of ints.
type names []int

func (w *work) names() names {
	l := make(names, edit.Count(*w.Func))
	for i := range l {
		l[i] = i
	}
	return l
}

// of returns what a value has become.
func (l names) of(v int) int {
	for l[v] != v {
		l[v] = l[l[v]]
		v = l[v]
	}
	return v
}

// rename puts what values have become into a list of Args.
func (l names) rename(args []int) {
	for i, v := range args {
		args[i] = l.of(v)
	}
}

// write puts what values have become into all Args.
func (l names) write(w *work) {
	for _, args := range edit.Lists(w.Func) {
		l.rename(args)
	}
}

func isPure(x ssa.Ins) bool {
	switch x.Op {
	case ssa.Const, ssa.Native, ssa.Tuple, ssa.Item, ssa.Is, ssa.Fits:
		return true
	}
	return false
}

// mayDrop reports whether an instruction may go if nothing uses its value.
func mayDrop(x ssa.Ins) bool {
	switch x.Op {
	case ssa.Text, ssa.Phi, ssa.Load, ssa.Get, ssa.Make:
		return true
	}
	return isPure(x)
}

// drop drops all that nothing uses, and reports whether there was anything.
func (w *work) drop() bool {
	m := w.made()
	gone := make([]bool, len(m.ins))
	queue := make([]int, 0, len(m.ins))
	for v := range m.ins {
		queue = append(queue, v)
	}
next:
	for len(queue) > 0 {
		v := queue[len(queue)-1]
		queue = queue[:len(queue)-1]
		x := m.ins[v]
		if x == nil || gone[v] || m.uses[v] > 0 || !mayDrop(*x) || w.isFull() {
			continue next
		}
		gone[v] = true
		w.step(Step{Kind: StepDrop, A: v})
		for _, a := range x.Args {
			if a != v {
				m.uses[a]--
				queue = append(queue, a)
			}
		}
	}
	if !slices.Contains(gone, true) {
		return false
	}
	for b := range w.Blocks {
		x := &w.Blocks[b]
		x.Ins = slices.DeleteFunc(x.Ins, func(y ssa.Ins) bool { return gone[y.Result] })
	}
	return true
}
