package witness

import (
	"errors"
	"slices"
	"strings"

	"hackamore/api"
	"hackamore/internal/edit"
	"hackamore/internal/same"
	"hackamore/internal/target"
	"hackamore/num"
	"hackamore/optimize"
	"hackamore/ssa"
)

// errRule is what a rule leaves with, if a step may not be done.
var errRule = errors.New("a step that may not be done")

// must asks for what a rule asks for.
func must(ok bool) {
	if !ok {
		panic(errRule)
	}
}

// book has the program that steps lead to; it is right ahead of each step.
type book struct {
	p      ssa.Program
	params map[string]int // how many each function has
	finder *target.Finder
}

func bookOf(p ssa.Program) *book {
	p.Funcs = slices.Clone(p.Funcs)
	b := &book{p, map[string]int{}, target.Of(p)}
	for _, f := range p.Funcs {
		b.params[f.Name] = len(f.Params)
	}
	return b
}

// apply does a step, if it may be done.
func (b *book) apply(s optimize.Step) (e api.Errno) {
	defer func() {
		if x := recover(); x != nil {
			e = ErrRule
		}
	}()
	if !isStep(s) || s.Func < 0 || s.Func >= len(b.p.Funcs) {
		return ErrStep
	}
	f := edit.Copy(b.p.Funcs[s.Func])
	b.rule(&f, s)
	_, wrong := ssa.CheckFunc(f)
	must(wrong == api.OK && b.hasDirects(f))
	b.p.Funcs[s.Func] = f
	return api.OK
}

// isStep reports whether a step is of a kind, and has no fields that this does not name.
func isStep(s optimize.Step) bool {
	b, lit, text := false, false, false
	switch s.Kind {
	case optimize.StepCopy, optimize.StepCommon, optimize.StepBranch, optimize.StepField:
		b = true
	case optimize.StepFold:
		lit = true
	case optimize.StepDirect:
		text = true
	case optimize.StepDrop, optimize.StepJoin, optimize.StepInline, optimize.StepStack:
	default:
		return false
	}
	return (b || s.B == 0) && (lit || same.Value(s.Lit, api.Value{})) && (text || s.Text == "")
}

// hasDirects reports whether each direct is one of a function with as many parameters.
func (b *book) hasDirects(f ssa.Func) bool {
	isRight := func(x ssa.Ins) bool {
		n, ok := b.params[x.Text]
		return x.Op != ssa.Direct || ok && n == len(x.Args)
	}
	for _, x := range f.Blocks {
		if !isRight(x.End.Call) {
			return false
		}
		for _, y := range x.Ins {
			if !isRight(y) {
				return false
			}
		}
	}
	return true
}

// rule does what a step does to a function.
func (b *book) rule(f *ssa.Func, s optimize.Step) {
	switch s.Kind {
	case optimize.StepCopy:
		stepCopy(f, s.A, s.B)
	case optimize.StepFold:
		stepFold(f, s.A, s.Lit)
	case optimize.StepCommon:
		stepCommon(f, s.A, s.B)
	case optimize.StepDrop:
		stepDrop(f, s.A)
	case optimize.StepBranch:
		stepBranch(f, s.A, s.B)
	case optimize.StepJoin:
		stepJoin(f, s.A)
	case optimize.StepInline:
		b.stepInline(f, s.A)
	case optimize.StepDirect:
		b.stepDirect(f, s.A, s.Text)
	case optimize.StepStack:
		stepStack(f, s.A)
	case optimize.StepField:
		stepField(f, s.A, s.B)
	}
}

// instruction returns the instruction of a value, and its place; there must be one.
func instruction(f *ssa.Func, value int) (*ssa.Ins, edit.Place) {
	at, ok := edit.Find(*f, value)
	must(ok)
	return &f.Blocks[at.Block].Ins[at.At], at
}

// constant returns the Lit of a const that makes a value.
func constant(f *ssa.Func, value int) (api.Value, bool) {
	at, ok := edit.Find(*f, value)
	if !ok {
		return api.Value{}, false
	}
	x := f.Blocks[at.Block].Ins[at.At]
	return x.Lit, x.Op == ssa.Const
}

func stepCopy(f *ssa.Func, a, b int) {
	x, _ := instruction(f, a)
	must(a != b)
	switch x.Op {
	case ssa.Phi:
		must(slices.Contains(x.Args, b) && !slices.ContainsFunc(x.Args, func(v int) bool { return v != a && v != b }))
	case ssa.Item:
		y, _ := instruction(f, x.Args[0])
		must(y.Op == ssa.Tuple && x.N < len(y.Args) && y.Args[x.N] == b)
	default:
		must(false)
	}
	edit.Replace(f, a, b)
}

func stepFold(f *ssa.Func, a int, lit api.Value) {
	x, _ := instruction(f, a)
	var l []api.Value
	for _, v := range x.Args {
		c, ok := constant(f, v)
		must(ok)
		l = append(l, c)
	}
	switch x.Op {
	case ssa.Native:
		typ, method, ok := strings.Cut(x.Text, ".")
		must(ok)
		v, raised, e := num.Call(typ, method, l)
		must(e == api.OK && !raised && same.Value(v, lit))
	case ssa.Is:
		must(same.Value(lit, boolean(same.Value(l[0], l[1]))))
	default:
		must(false)
	}
	*x = ssa.Ins{Op: ssa.Const, Result: x.Result, Type: x.Type, Lit: lit}
}

func boolean(b bool) api.Value {
	v := api.Value{Kind: api.ValBool}
	if b {
		v.Lo = 1
	}
	return v
}

func stepCommon(f *ssa.Func, a, b int) {
	x, at := instruction(f, a)
	y, other := instruction(f, b)
	must(a != b && edit.Same(*x, *y) && (Pure(*x) || x.Op == ssa.Phi && at.Block == other.Block))
	edit.Remove(f, at)
	edit.Replace(f, a, b)
}

func stepDrop(f *ssa.Func, a int) {
	x, at := instruction(f, a)
	switch x.Op {
	case ssa.Text, ssa.Phi, ssa.Load, ssa.Get, ssa.Make:
	default:
		must(Pure(*x))
	}
	for u := range uses(*f, a) {
		must(u.Op == x.Op && u.Result == a)
	}
	edit.Remove(f, at)
}

func stepBranch(f *ssa.Func, a, b int) {
	must(a >= 0 && a < len(f.Blocks) && (b == 0 || b == 1))
	end := f.Blocks[a].End
	must(end.Kind == ssa.Branch)
	v, ok := constant(f, end.Args[0])
	isKnown := ok && same.Value(v, boolean(b == 0))
	must(isKnown || b == 0 && isOneWay(*f, a))
	edit.Keep(f, a, b)
}

// isOneWay reports whether both ways of a branch lead to the same block, with the same arguments of its phis.
func isOneWay(f ssa.Func, block int) bool {
	to := f.Blocks[block].End.To
	if to[0] != to[1] {
		return false
	}
	index := map[edit.Edge]int{}
	for i, e := range edit.Edges(f)[to[0]] {
		index[e] = i
	}
	one, two := index[edit.Edge{Block: block, Index: 0}], index[edit.Edge{Block: block, Index: 1}]
	return !slices.ContainsFunc(f.Blocks[to[0]].Ins, func(x ssa.Ins) bool { return x.Op == ssa.Phi && x.Args[one] != x.Args[two] })
}

func stepJoin(f *ssa.Func, a int) {
	must(a >= 0 && a < len(f.Blocks))
	end := f.Blocks[a].End
	must(end.Kind == ssa.Jump && end.To[0] != a && len(edit.Edges(*f)[end.To[0]]) == 1)
	edit.Join(f, a)
}

func (b *book) stepInline(f *ssa.Func, a int) {
	x, at := instruction(f, a)
	must(x.Op == ssa.Direct && x.Text != f.Name)
	i := slices.IndexFunc(b.p.Funcs, func(g ssa.Func) bool { return g.Name == x.Text })
	callee := b.p.Funcs[i]
	must(!callee.Partial && hasEnd(callee, ssa.Return) && !hasEnd(callee, ssa.Error) && !hasVariables(callee))
	edit.Inline(f, at, callee)
}

func hasEnd(f ssa.Func, kind int) bool {
	return slices.ContainsFunc(f.Blocks, func(b ssa.Block) bool { return b.End.Kind == kind })
}

func hasVariables(f ssa.Func) bool {
	isOne := func(x ssa.Ins) bool { return x.Op == ssa.Load || x.Op == ssa.Store }
	return slices.ContainsFunc(f.Blocks, func(b ssa.Block) bool { return slices.ContainsFunc(b.Ins, isOne) })
}

// maker returns what makes a value: an instruction, or the Call of a try; nil for others.
func maker(f *ssa.Func, value int) *ssa.Ins {
	for b := range f.Blocks {
		x := &f.Blocks[b]
		for i := range x.Ins {
			if x.Ins[i].Result == value {
				return &x.Ins[i]
			}
		}
		if x.End.Kind == ssa.Try && x.End.Call.Result == value {
			return &x.End.Call
		}
	}
	return nil
}

func (b *book) stepDirect(f *ssa.Func, a int, text string) {
	x := maker(f, a)
	must(x != nil && x.Op == ssa.Call)
	var t api.Type
	if receiver := x.Args[0]; receiver < len(f.Params) {
		t = f.Params[receiver]
	} else {
		t = maker(f, receiver).Type
	}
	l, e := b.finder.Targets(t, x.Text)
	must(e == api.OK && len(l) == 1 && l[0] == text)
	x.Op, x.Text = ssa.Direct, text
}

func stepStack(f *ssa.Func, a int) {
	x, _ := instruction(f, a)
	must(x.Op == ssa.Make && !x.Flag && !escapes(*f, a))
	x.Flag = true
}

func stepField(f *ssa.Func, a, b int) {
	x, at := instruction(f, a)
	must(x.Op == ssa.Get)
	object, _ := instruction(f, x.Args[0])
	must(object.Op == ssa.Make && !escapes(*f, x.Args[0]))
	must(b >= 0 && fieldAhead(f.Blocks[at.Block].Ins[:at.At], *x) == b)
	edit.Remove(f, at)
	edit.Replace(f, a, b)
}

// fieldAhead returns the value that a field had, when it was last read or written; -1, if it was not.
func fieldAhead(l []ssa.Ins, get ssa.Ins) int {
	for _, y := range slices.Backward(l) {
		if y.Text != get.Text || (y.Op != ssa.Get && y.Op != ssa.Set) || y.Args[0] != get.Args[0] {
			continue
		}
		if y.Op == ssa.Set {
			return y.Args[1]
		}
		return y.Result
	}
	return -1
}
