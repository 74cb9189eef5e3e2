package ssa

import (
	"slices"

	"hackamore/api"
)

// variable is a local variable: the type of its first store, the blocks with stores, those at whose beginning it is needed, and its phis, by their blocks.
type variable struct {
	name   string
	typ    api.Type
	stores blockSet
	needed blockSet
	phis   map[int]*Ins
}

// promoter makes values of the local variables of a function that is right.
type promoter struct {
	*graph
	used      []int // how often each value is used
	variables []*variable
	places    map[string]int
	value     map[int]int // what values of loads and stores are
	next      int
}

// Promote returns a function without Loads and Stores of local variables.
func Promote(f Func) (Func, api.Errno) {
	g, e := graphOf(f)
	if e != api.OK {
		return Func{}, e
	}
	p := &promoter{graph: g, used: countUses(f), places: map[string]int{}, value: map[int]int{}, next: count(f)}
	p.find()
	for _, v := range p.variables {
		if v.needed.has(0) {
			return Func{}, ErrUse
		}
	}
	if !p.place() {
		return Func{}, api.ErrSize
	}
	p.rename()
	return checked(cleaned(p.written()))
}

func isVariable(x Ins) bool { return x.Op == Load || x.Op == Store }

// variable returns the variable with a name, a new one behind the others if it is not there yet.
func (p *promoter) variable(name string) *variable {
	i, ok := p.places[name]
	if !ok {
		i = len(p.variables)
		p.places[name] = i
		p.variables = append(p.variables, &variable{name: name, phis: map[int]*Ins{}})
	}
	return p.variables[i]
}

// find finds the variables, and where each one is stored and needed.
func (p *promoter) find() {
	exposed := map[*variable][]int{}
	for b, x := range p.f.Blocks {
		stored := map[*variable]bool{}
		for _, y := range x.Ins {
			if !isVariable(y) {
				continue
			}
			v := p.variable(y.Text)
			if !stored[v] && (y.Op == Load || p.used[y.Result] > 0) {
				exposed[v] = append(exposed[v], b)
			}
			if y.Op == Store {
				if v.stores == (blockSet{}) {
					v.typ = y.Type
				}
				stored[v] = true
				v.stores.add(b)
			}
		}
	}
	for _, v := range p.variables {
		p.spread(v, exposed[v])
	}
}

// spread goes back from the blocks at whose beginning a variable is needed to those that have stores.
func (p *promoter) spread(v *variable, work []int) {
	for len(work) > 0 {
		b := work[len(work)-1]
		work = work[:len(work)-1]
		if !v.needed.add(b) {
			continue
		}
		for _, q := range p.preds[b] {
			if !v.stores.has(q) {
				work = append(work, q)
			}
		}
	}
}

// place puts phis into the iterated frontiers of stores, where they are needed; false, if there would be too many.
func (p *promoter) place() bool {
	frontiers := p.frontiers()
	left := maxIns
	for _, x := range p.f.Blocks {
		for _, y := range x.Ins {
			if !isVariable(y) {
				left--
			}
		}
	}
	for _, v := range p.variables {
		work := v.stores.list()
		var in blockSet
		for len(work) > 0 {
			b := work[len(work)-1]
			work = work[:len(work)-1]
			for _, to := range frontiers[b].list() {
				if in.add(to) {
					work = append(work, to)
				}
			}
		}
		for _, b := range in.list() {
			if !v.needed.has(b) {
				continue
			}
			if left--; left < 0 {
				return false
			}
			v.phis[b] = &Ins{Op: Phi, Result: p.next, Type: v.typ, Args: make([]int, len(p.preds[b]))}
			p.next++
		}
	}
	return true
}

// rename walks the tree of dominators, with a stack of values for each variable, and tells what loads, used stores and the arguments of the new phis are.
func (p *promoter) rename() {
	stacks := map[string][]int{}
	top := func(name string) int {
		s := stacks[name]
		if len(s) == 0 {
			return nothing
		}
		return s[len(s)-1]
	}
	kids := p.tree()
	var walk func(b int)
	walk = func(b int) {
		depths := map[string]int{}
		push := func(name string, value int) {
			if _, ok := depths[name]; !ok {
				depths[name] = len(stacks[name])
			}
			stacks[name] = append(stacks[name], value)
		}
		for _, v := range p.variables {
			if x := v.phis[b]; x != nil {
				push(v.name, x.Result)
			}
		}
		for _, x := range p.f.Blocks[b].Ins {
			if !isVariable(x) {
				continue
			}
			p.value[x.Result] = top(x.Text)
			if x.Op == Store {
				push(x.Text, p.valueOf(x.Args[0]))
			}
		}
		p.fill(b, top)
		for _, k := range kids[b] {
			walk(k)
		}
		for name, n := range depths {
			stacks[name] = stacks[name][:n]
		}
	}
	walk(0)
}

// fill tells the new phis behind a block what they get from it.
func (p *promoter) fill(b int, top func(name string) int) {
	for _, to := range p.f.Blocks[b].End.To {
		for _, v := range p.variables {
			x := v.phis[to]
			if x == nil {
				continue
			}
			for i, q := range p.preds[to] {
				if q == b {
					x.Args[i] = top(v.name)
				}
			}
		}
	}
}

// valueOf returns what a value is behind the promotion.
func (p *promoter) valueOf(v int) int {
	if to, ok := p.value[v]; ok {
		return to
	}
	return v
}

// written returns the function with the new phis, and without loads and stores.
func (p *promoter) written() Func {
	f := p.f
	f.Blocks = slices.Clone(f.Blocks)
	for b, x := range f.Blocks {
		var l []Ins
		isPhi := func(y Ins) bool { return y.Op == Phi }
		rest := len(x.Ins)
		if i := slices.IndexFunc(x.Ins, func(y Ins) bool { return !isPhi(y) }); i >= 0 {
			rest = i
		}
		for _, y := range x.Ins[:rest] {
			l = append(l, p.rewritten(y))
		}
		for _, v := range p.variables {
			if y := v.phis[b]; y != nil {
				l = append(l, *y)
			}
		}
		for _, y := range x.Ins[rest:] {
			if !isVariable(y) {
				l = append(l, p.rewritten(y))
			}
		}
		x.Ins = l
		x.End.Args = mapped(x.End.Args, p.valueOf)
		x.End.Call = p.rewritten(x.End.Call)
		f.Blocks[b] = x
	}
	return f
}

func (p *promoter) rewritten(x Ins) Ins {
	x.Args = mapped(x.Args, p.valueOf)
	return x
}
