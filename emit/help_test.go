package emit_test

import (
	"slices"

	"hackamore/api"
	"hackamore/code"
	. "hackamore/emit"
	"hackamore/internal/flows"
	"hackamore/internal/sample"
	"hackamore/num"
	"hackamore/ssa"
	"hackamore/types"
)

// Kinds of numbers.
const (
	byteKind = api.ValNumber + 6 // U8
	wordKind = api.ValNumber + 8 // U32
)

func u8(n uint64) api.Value { return api.Value{Kind: byteKind, Lo: n} }

func truth(b bool) api.Value { return flows.Boolean(b) }

func ins(op, result int, s string, args ...int) ssa.Ins {
	return ssa.Ins{Op: op, Result: result, Text: s, Args: args}
}

func constant(result int, v api.Value) ssa.Ins { return ssa.Ins{Op: ssa.Const, Result: result, Lit: v} }

func tuple(result int, args ...int) ssa.Ins { return ins(ssa.Tuple, result, "", args...) }

func item(result, v, n int) ssa.Ins {
	return ssa.Ins{Op: ssa.Item, Result: result, Args: []int{v}, N: n}
}

func phi(result int, args ...int) ssa.Ins { return ins(ssa.Phi, result, "", args...) }

func fits(result, v int, t api.Type) ssa.Ins {
	return ssa.Ins{Op: ssa.Fits, Result: result, Args: []int{v}, Type: t}
}

func back(v int) ssa.End { return ssa.End{Kind: ssa.Return, Args: []int{v}} }

func jump(to int) ssa.End { return ssa.End{Kind: ssa.Jump, To: []int{to}} }

func branch(v, a, b int) ssa.End {
	return ssa.End{Kind: ssa.Branch, Args: []int{v}, To: []int{a, b}}
}

func try(call ssa.Ins, a, b int) ssa.End {
	return ssa.End{Kind: ssa.Try, Call: call, To: []int{a, b}}
}

func block(end ssa.End, l ...ssa.Ins) ssa.Block { return ssa.Block{Ins: l, End: end} }

// fn returns a function with so many parameters.
func fn(name string, params int, l ...ssa.Block) ssa.Func {
	return ssa.Func{Name: name, Params: make([]api.Type, params), Blocks: l}
}

func program(l ...ssa.Func) ssa.Program { return ssa.Program{Funcs: l} }

func named(name string) api.Type { return types.Named(name, api.Val, nil) }

// varied makes other instructions of some: calls of methods of numbers, tuples, and items of these.
func varied(f ssa.Func, pick func(int) int) ssa.Func {
	methods := []string{"add", "lt", "sub", "op_and", "eq", "neg", "add_partial", "u32"}
	change := func(x *ssa.Ins, isCall bool) {
		if x.Op != ssa.Call && x.Op != ssa.Native || pick(3) == 0 {
			return
		}
		switch {
		case x.Op == ssa.Native && pick(3) == 0:
			x.Op, x.Text = ssa.Tuple, ""
		case x.Op == ssa.Native && pick(4) == 0:
			*x = ssa.Ins{Op: ssa.Item, Result: x.Result, Args: x.Args[:1], N: pick(3)}
		case x.Op == ssa.Native && pick(2) == 0:
			x.Text = []string{"Bool.op_and", "nope.lt", "U8.lt", "eq", "U8.u32"}[pick(5)]
		case len(x.Args) == 2:
			x.Text = methods[pick(len(methods))]
			if !isCall && pick(3) == 0 {
				x.Op = ssa.Call
			}
		}
	}
	for b := range f.Blocks {
		for i := range f.Blocks[b].Ins {
			change(&f.Blocks[b].Ins[i], false)
		}
		change(&f.Blocks[b].End.Call, true)
	}
	return f
}

// chance returns a program by chance; if it says so, functions have the names of methods of numbers, too.
func chance(seed int) ssa.Program {
	pick := sample.Source(uint64(seed))
	direct := map[string]int{"f": 2, "E.m0": 1, "E.m1": 2, "U8.add": 2}
	if seed%4 > 0 {
		delete(direct, "U8.add")
	}
	m := &flows.Maker{Pick: pick, Effects: seed%5 > 0, Objects: seed%3 == 0, Direct: direct}
	p := ssa.Program{Entities: []api.Entity{{Kind: api.Class, Name: "E"}, {Kind: api.Trait, Name: "T"}, {Kind: api.Actor, Name: "A"}}}
	for _, name := range []string{"E.m0", "E.m1", "U8.add", "f"} {
		if n, ok := direct[name]; ok {
			p.Funcs = append(p.Funcs, varied(m.Func(name, n, 1+pick(8), 1+pick(9)), pick))
		}
	}
	if fault, e := ssa.Check(p); e != api.OK {
		panic("chance: error " + e.Error() + " in the function " + p.Funcs[fault.Func].Name)
	}
	return p
}

// shape is a Shape, or nothing yet.
type shape struct {
	unseen bool
	kind   int
	kids   []shape
}

func same(a, b shape) bool {
	return a.unseen == b.unseen && a.kind == b.kind && slices.EqualFunc(a.kids, b.kids, same)
}

func (s shape) done() Shape {
	out := Shape{Kind: s.kind}
	for _, k := range s.kids {
		out.Kids = append(out.Kids, k.done())
	}
	return out
}

func equal(a, b Shape) bool { return a.Kind == b.Kind && slices.EqualFunc(a.Kids, b.Kids, equal) }

// shapesOf returns the shapes of values as the chapter says them: all of them anew from those ahead, until nothing changes. Of a value nothing is said at first.
func shapesOf(p ssa.Program, f ssa.Func) []shape {
	n := len(f.Params)
	var l []ssa.Ins
	for _, b := range f.Blocks {
		l = append(l, b.Ins...)
		if b.End.Kind == ssa.Try {
			l = append(l, b.End.Call)
		}
	}
	for _, x := range l {
		n = max(n, x.Result+1)
	}
	now := make([]shape, n)
	for _, x := range l {
		now[x.Result].unseen = true
	}
	for {
		next := slices.Clone(now)
		for _, x := range l {
			next[x.Result] = shapeOf(p, x, now)
		}
		if slices.EqualFunc(now, next, same) {
			return now
		}
		now = next
	}
}

func shapeOf(p ssa.Program, x ssa.Ins, now []shape) shape {
	switch x.Op {
	case ssa.Const:
		if num.Check(x.Lit) == api.OK {
			return shape{kind: x.Lit.Kind}
		}
	case ssa.Is, ssa.Fits:
		return shape{kind: api.ValBool}
	case ssa.Tuple:
		var s shape
		for _, a := range x.Args {
			s.kids = append(s.kids, now[a])
		}
		return s
	case ssa.Item:
		s := now[x.Args[0]]
		if s.unseen {
			return s
		}
		if x.N < len(s.kids) {
			return s.kids[x.N]
		}
	case ssa.Phi:
		s := shape{unseen: true}
		for _, a := range x.Args {
			switch k := now[a]; {
			case k.unseen || same(s, k):
			case s.unseen && len(k.kids) == 0:
				s = k
			default:
				return shape{}
			}
		}
		return s
	case ssa.Call, ssa.Native:
		if len(x.Args) != 2 {
			return shape{}
		}
		a, b := now[x.Args[0]], now[x.Args[1]]
		if a.unseen || b.unseen {
			return shape{unseen: true}
		}
		method := x.Text
		if x.Op == ssa.Native {
			for i := range method {
				if method[len(method)-1-i] == '.' {
					method = method[len(method)-i:]
					break
				}
			}
		}
		if _, result, ok := arith(p, a.kind, method, b.kind); ok {
			return shape{kind: result}
		}
	}
	return shape{}
}

// arith is Arith, as the chapter says it.
func arith(p ssa.Program, kind int, method string, other int) (string, int, bool) {
	kinds := map[string]int{"Bool": 1}
	for i, typ := range num.Types() {
		kinds[typ] = 10 + i
	}
	for typ, k := range kinds {
		l, _ := num.Methods(typ)
		for _, s := range l {
			if k != kind || s.Name != method || s.Partial || len(s.Params) != 1 || kinds[s.Params[0]] != other || kinds[s.Params[0]] == 0 || kinds[s.Result] == 0 {
				continue
			}
			name := typ + "." + method
			if slices.ContainsFunc(p.Funcs, func(f ssa.Func) bool { return f.Name == name }) {
				return "", 0, false
			}
			return name, kinds[s.Result], true
		}
	}
	return "", 0, false
}

// classes are the Classes of a shape that a value has, as the chapter says them.
func classes(s Shape) []int {
	if len(s.Kids) == 0 {
		if s.Kind != 0 {
			return []int{code.Num}
		}
		return []int{code.Any}
	}
	var l []int
	for _, k := range s.Kids {
		l = append(l, classes(k)...)
	}
	return l
}
