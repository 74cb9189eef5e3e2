package witness_test

import (
	"slices"
	"strings"
	"testing"

	"hackamore/api"
	"hackamore/internal/flows"
	"hackamore/num"
	"hackamore/optimize"
	"hackamore/ssa"
)

func ins(op, result int, args ...int) ssa.Ins { return ssa.Ins{Op: op, Result: result, Args: args} }

func named(op, result int, text string, args ...int) ssa.Ins {
	return ssa.Ins{Op: op, Result: result, Text: text, Args: args}
}

func u8(n uint64) api.Value { return api.Value{Kind: api.ValNumber + 6, Lo: n} }

func truth(n uint64) api.Value { return api.Value{Kind: api.ValBool, Lo: n} }

func constant(result int, v api.Value) ssa.Ins { return ssa.Ins{Op: ssa.Const, Result: result, Lit: v} }

func item(result, v, n int) ssa.Ins {
	return ssa.Ins{Op: ssa.Item, Result: result, Args: []int{v}, N: n}
}

func block(end ssa.End, l ...ssa.Ins) ssa.Block { return ssa.Block{Ins: l, End: end} }

func back(v int) ssa.End { return ssa.End{Kind: ssa.Return, Args: []int{v}} }

func jump(to int) ssa.End { return ssa.End{Kind: ssa.Jump, To: []int{to}} }

func branch(v, a, b int) ssa.End { return ssa.End{Kind: ssa.Branch, Args: []int{v}, To: []int{a, b}} }

func try(call ssa.Ins, a, b int) ssa.End {
	return ssa.End{Kind: ssa.Try, Call: call, To: []int{a, b}}
}

func fn(name string, params int, l ...ssa.Block) ssa.Func {
	return ssa.Func{Name: name, Params: make([]api.Type, params), Blocks: l}
}

func program(l ...ssa.Func) ssa.Program { return ssa.Program{Funcs: l} }

func text(t *testing.T, p ssa.Program) string {
	s, e := ssa.Print(p.Funcs)
	if e != api.OK {
		t.Fatalf("Print: error %d", e)
	}
	return s
}

// chance returns a program by chance: some functions, which call one another.
func chance(pick func(int) int, seed int) ssa.Program {
	m := &flows.Maker{Pick: pick, Effects: seed%4 > 0, Objects: seed%3 == 0, Variables: seed%5 == 0, Direct: map[string]int{"f0": 2, "f1": 1, "f2": 1}}
	p := ssa.Program{}
	for i := range 3 {
		f := m.Func("f"+string(rune('0'+i)), []int{2, 1, 1}[i], 2+pick(4), 1+pick(8))
		if i > 0 && pick(3) > 0 {
			f = withoutErrors(f)
		}
		p.Funcs = append(p.Funcs, f)
	}
	return p
}

// withoutErrors returns a function that ends with no error, and has variables no more.
func withoutErrors(f ssa.Func) ssa.Func {
	f.Partial = false
	for b := range f.Blocks {
		if f.Blocks[b].End.Kind == ssa.Error {
			f.Blocks[b].End.Kind = ssa.Stuck
		}
	}
	if g, e := ssa.Promote(f); e == api.OK {
		return g
	}
	return f
}

// steps returns the steps of some kinds that might be done in a program, and many that may not.
func steps(p ssa.Program, kinds ...int) []optimize.Step {
	var l []optimize.Step
	for n, f := range p.Funcs {
		var values []int
		literals := []api.Value{truth(0), truth(1)}
		lits, ops := map[int]api.Value{}, map[int]int{}
		for v := range f.Params {
			values = append(values, v)
		}
		for _, b := range f.Blocks {
			for _, x := range b.Ins {
				values = append(values, x.Result)
				ops[x.Result] = x.Op
				lits[x.Result] = x.Lit
				if x.Op == ssa.Native {
					var args []api.Value
					for _, a := range x.Args {
						args = append(args, lits[a])
					}
					typ, method, _ := strings.Cut(x.Text, ".")
					if v, _, e := num.Call(typ, method, args); e == api.OK {
						literals = append(literals, v)
					}
				}
			}
			if b.End.Kind == ssa.Try {
				values = append(values, b.End.Call.Result)
			}
		}
		for _, kind := range kinds {
			for _, s := range stepsOf(kind, n, len(f.Blocks), values, literals) {
				if isLikely(s, ops) {
					l = append(l, s)
				}
			}
		}
	}
	return l
}

// isLikely reports whether a step is of an instruction of the right operation, or is one of a few others.
func isLikely(s optimize.Step, ops map[int]int) bool {
	op := ops[s.A]
	switch s.Kind {
	case optimize.StepField:
		return op == ssa.Get || s.A+s.B == 7
	case optimize.StepCopy:
		return op == ssa.Phi || op == ssa.Item || s.A+s.B == 7
	case optimize.StepCommon:
		return op == ops[s.B] || s.A+s.B == 7
	}
	return true
}

func stepsOf(kind, n, blocks int, values []int, literals []api.Value) []optimize.Step {
	var l []optimize.Step
	add := func(s optimize.Step) {
		s.Kind, s.Func = kind, n
		l = append(l, s)
	}
	switch kind {
	case optimize.StepBranch, optimize.StepJoin:
		for b := range blocks {
			add(optimize.Step{A: b})
			if kind == optimize.StepBranch {
				add(optimize.Step{A: b, B: 1})
			}
		}
		return l
	}
	for _, a := range values {
		switch kind {
		case optimize.StepCopy, optimize.StepCommon, optimize.StepField:
			for _, b := range values {
				add(optimize.Step{A: a, B: b})
			}
		case optimize.StepFold:
			for _, v := range literals {
				add(optimize.Step{A: a, Lit: v})
			}
		default:
			add(optimize.Step{A: a})
		}
	}
	return l
}

// alike reports whether two runs are the same, as far as both went.
func alike(a, b []string) bool {
	n := min(len(a), len(b))
	if a[len(a)-1] == "cut" || b[len(b)-1] == "cut" {
		return slices.Equal(a[:n-1], b[:n-1])
	}
	return slices.Equal(a, b)
}

// measure returns what P22.4 counts: instructions, blocks, instructions that are no consts.
func measure(f ssa.Func) (instructions, blocks, others int) {
	for _, b := range f.Blocks {
		instructions += len(b.Ins)
		for _, x := range b.Ins {
			if x.Op != ssa.Const {
				others++
			}
		}
	}
	return instructions, len(f.Blocks), others
}

func usesOf(f ssa.Func, v int) int {
	l, e := ssa.Uses(f)
	if e != api.OK || v < 0 || v >= len(l) {
		return 0
	}
	return l[v]
}
