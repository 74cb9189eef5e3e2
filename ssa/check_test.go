package ssa_test

import (
	"slices"
	"strings"
	"testing"

	"hackamore/api"
	. "hackamore/ssa"
)

// right has an instruction of each operation, and an end of each kind.
func right() Func {
	return fn(2,
		block(branch(10, 1, 2), Ins{Op: Const, Result: 10, Lit: api.Value{Kind: api.ValBool, Lo: 1}}, named(Text, 11, ""), named(Store, 12, "v", 11), named(Load, 13, "v"), named(Make, 14, "C"), named(Set, 15, "f", 14, 10), named(Get, 16, "f", 14)),
		block(try(named(Call, 20, "m", 14, 0), 3, 4), named(Native, 17, "U8.add"), Ins{Op: Spawn, Result: 18, Name: "A", Text: "create"}, named(Send, 19, "go", 18)),
		block(jump(4), ins(Tuple, 21, 0, 1), Ins{Op: Item, Result: 22, N: 63, Args: []int{21}}, ins(Is, 23, 0, 22), ins(Fits, 24, 0), named(Call, 25, "m", 0), named(Direct, 26, "g")),
		block(giveBack(20)),
		block(branch(10, 5, 6), ins(Phi, 27, 14, 25)),
		block(End{Kind: Error}),
		block(End{Kind: Stuck}),
	)
}

func deep(levels int) api.Value {
	v := api.Value{Kind: 5}
	for range levels - 1 {
		v = api.Value{Kind: 5, Kids: []api.Value{v}}
	}
	return v
}

func TestRight(t *testing.T) {
	if f, e := CheckFunc(right()); e != api.OK || f != (Fault{}) {
		t.Errorf("%v, error %d", f, e)
	}
}

// TestShape: each error of the shape, at the first place that has one.
func TestShape(t *testing.T) {
	long := strings.Repeat("x", 201)
	many := func(n int) []int { return make([]int, n) }
	for i, c := range []struct {
		change func(f *Func)
		fault  Fault
		e      api.Errno
	}{
		{func(f *Func) { f.Params = make([]api.Type, 65) }, Fault{}, api.ErrSize},
		{func(f *Func) { f.Blocks = nil; f.Name = long }, Fault{}, api.ErrSize},
		{func(f *Func) { f.Blocks = append(f.Blocks, make([]Block, 394)...) }, Fault{}, api.ErrSize},
		{func(f *Func) { f.Blocks[3].Ins = make([]Ins, 3983) }, Fault{}, api.ErrSize},
		{func(f *Func) { f.Blocks[3].Ins = make([]Ins, 3982) }, Fault{Block: 3}, api.ErrArg},
		{func(f *Func) { f.Name = long; f.Blocks[0].Ins[0].Op = 0 }, Fault{}, api.ErrForm},
		{func(f *Func) { f.Name = "\xff" }, Fault{}, api.ErrForm},
		{func(f *Func) { f.Name = "" }, Fault{}, api.OK},
		{func(f *Func) { f.Name = long[1:] }, Fault{}, api.OK},
		{func(f *Func) { f.Blocks[0].Ins[3].Op = 0; f.Blocks[0].Ins[4].Op = 18 }, Fault{At: 3}, api.ErrArg},
		{func(f *Func) { f.Blocks[0].Ins[4].Op = 18 }, Fault{At: 4}, api.ErrArg},
		{func(f *Func) { f.Blocks[0].Ins[4].Op = -1 }, Fault{At: 4}, api.ErrArg},
		{func(f *Func) { f.Blocks[0].Ins[5].Args = many(1); f.Blocks[0].Ins[5].Text = "" }, Fault{At: 5}, api.ErrSize},
		{func(f *Func) { f.Blocks[0].Ins[5].Args = many(3) }, Fault{At: 5}, api.ErrSize},
		{func(f *Func) { f.Blocks[0].Ins[0].Args = many(1) }, Fault{}, api.ErrSize},
		{func(f *Func) { f.Blocks[2].Ins[0].Args = many(1) }, Fault{Block: 2}, api.ErrSize},
		{func(f *Func) { f.Blocks[2].Ins[0].Args = many(65) }, Fault{Block: 2}, api.ErrSize},
		{func(f *Func) { f.Blocks[2].Ins[0].Args = many(64) }, Fault{}, api.OK},
		{func(f *Func) { f.Blocks[1].Ins[2].Args = nil }, Fault{Block: 1, At: 2}, api.ErrSize},
		{func(f *Func) { f.Blocks[1].Ins[0].Args = many(65) }, Fault{Block: 1}, api.ErrSize},
		{func(f *Func) { f.Blocks[1].Ins[1].Args = many(65) }, Fault{Block: 1, At: 1}, api.ErrSize},
		{func(f *Func) { f.Blocks[2].Ins[4].Args = nil }, Fault{Block: 2, At: 4}, api.ErrSize},
		{func(f *Func) { f.Blocks[2].Ins[5].Args = many(65) }, Fault{Block: 2, At: 5}, api.ErrSize},
		{func(f *Func) { f.Blocks[4].Ins[0].Args = many(401) }, Fault{Block: 4}, api.ErrSize},
		{func(f *Func) { f.Blocks[4].Ins[0].Args = many(400) }, Fault{Block: 4}, ErrPhi},
		{func(f *Func) { f.Blocks[0].Ins[5].Text = ""; f.Blocks[0].Ins[5].Args[0] = -1 }, Fault{At: 5}, api.ErrForm},
		{func(f *Func) { f.Blocks[0].Ins[5].Text = long }, Fault{At: 5}, api.ErrForm},
		{func(f *Func) { f.Blocks[0].Ins[5].Text = "\xff" }, Fault{At: 5}, api.ErrForm},
		{func(f *Func) { f.Blocks[0].Ins[5].Text = long[1:] }, Fault{}, api.OK},
		{func(f *Func) { f.Blocks[0].Ins[5].Name = "x" }, Fault{At: 5}, api.ErrForm},
		{func(f *Func) { f.Blocks[0].Ins[5].N = 1 }, Fault{At: 5}, api.ErrForm},
		{func(f *Func) { f.Blocks[0].Ins[5].Flag = true }, Fault{At: 5}, api.ErrForm},
		{func(f *Func) { f.Blocks[0].Ins[4].Flag = true }, Fault{}, api.OK},
		{func(f *Func) { f.Blocks[0].Ins[5].Lit.Name = "x" }, Fault{At: 5}, api.ErrForm},
		{func(f *Func) { f.Blocks[0].Ins[5].Lit.Kids = []api.Value{{}} }, Fault{At: 5}, api.ErrForm},
		{func(f *Func) { f.Blocks[0].Ins[5].Lit.Hi = 1 }, Fault{At: 5}, api.ErrForm},
		{func(f *Func) { f.Blocks[0].Ins[0].Text = "x" }, Fault{}, api.ErrForm},
		{func(f *Func) { f.Blocks[0].Ins[0].Lit = deep(8) }, Fault{}, api.OK},
		{func(f *Func) { f.Blocks[0].Ins[0].Lit = deep(9) }, Fault{}, api.ErrForm},
		{func(f *Func) { f.Blocks[0].Ins[0].Lit.Kids = make([]api.Value, 64) }, Fault{}, api.OK},
		{func(f *Func) { f.Blocks[0].Ins[0].Lit.Kids = make([]api.Value, 65) }, Fault{}, api.ErrForm},
		{func(f *Func) { f.Blocks[0].Ins[0].Lit.Kids = []api.Value{{}, {Kids: make([]api.Value, 65)}} }, Fault{}, api.ErrForm},
		{func(f *Func) { f.Blocks[0].Ins[0].Lit.Kids = []api.Value{{Kids: []api.Value{{}}}, deep(8)} }, Fault{}, api.ErrForm},
		{func(f *Func) { f.Blocks[0].Ins[1].Text = strings.Repeat("é", 2000) }, Fault{}, api.OK},
		{func(f *Func) { f.Blocks[0].Ins[1].Text = strings.Repeat("é", 2000) + "x" }, Fault{At: 1}, api.ErrForm},
		{func(f *Func) { f.Blocks[0].Ins[1].Text = "\xff" }, Fault{At: 1}, api.ErrForm},
		{func(f *Func) { f.Blocks[1].Ins[1].Name = "" }, Fault{Block: 1, At: 1}, api.ErrForm},
		{func(f *Func) { f.Blocks[1].Ins[1].Name = long }, Fault{Block: 1, At: 1}, api.ErrForm},
		{func(f *Func) { f.Blocks[1].Ins[1].Text = "" }, Fault{Block: 1, At: 1}, api.ErrForm},
		{func(f *Func) { f.Blocks[2].Ins[1].N = 64 }, Fault{Block: 2, At: 1}, api.ErrForm},
		{func(f *Func) { f.Blocks[2].Ins[1].N = -1 }, Fault{Block: 2, At: 1}, api.ErrForm},
		{func(f *Func) { f.Blocks[2].Ins[1].N = 0 }, Fault{}, api.OK},
		{func(f *Func) { f.Blocks[0].Ins[5].Args[1] = -1; f.Blocks[0].Ins[5].Result = 0 }, Fault{At: 5}, api.ErrRange},
		{func(f *Func) { f.Blocks[0].Ins[5].Args[1] = 100001 }, Fault{At: 5}, api.ErrRange},
		{func(f *Func) { f.Blocks[0].Ins[5].Args[1] = 100000 }, Fault{At: 5}, ErrUse},
		{func(f *Func) { f.Blocks[0].Ins[5].Result = 1 }, Fault{At: 5}, api.ErrRange},
		{func(f *Func) { f.Blocks[0].Ins[5].Result = 100001 }, Fault{At: 5}, api.ErrRange},
		{func(f *Func) { f.Blocks[0].Ins[5].Result = 100000 }, Fault{}, api.OK},
		{func(f *Func) { f.Blocks[0].Ins[5].Result = 2 }, Fault{}, api.OK},
		{func(f *Func) { f.Blocks[0].Ins[5].Result = 10 }, Fault{At: 5}, api.ErrTwice},
		{func(f *Func) { f.Blocks[1].End.Call.Result = 10 }, Fault{Block: 1, At: 3}, api.ErrTwice},
		{func(f *Func) { f.Blocks[2].Ins[0].Result = 20 }, Fault{Block: 2}, api.ErrTwice},
		{func(f *Func) { f.Blocks[4].Ins[0].Result = 10 }, Fault{Block: 4}, api.ErrTwice},
		{func(f *Func) { f.Blocks[0].Ins[5] = ins(Phi, 15) }, Fault{At: 5}, ErrPhi},
		{func(f *Func) { f.Blocks[0].Ins[0] = ins(Phi, 10) }, Fault{}, ErrPhi},
		{func(f *Func) { f.Blocks[2].Ins[2] = ins(Phi, 23, 0) }, Fault{Block: 2, At: 2}, ErrPhi},
		{func(f *Func) { f.Blocks[0].End.Kind = 0 }, Fault{At: 7}, api.ErrArg},
		{func(f *Func) { f.Blocks[0].End.Kind = 7 }, Fault{At: 7}, api.ErrArg},
		{func(f *Func) { f.Blocks[0].End.Args = nil; f.Blocks[0].End.Call.N = 1 }, Fault{At: 7}, api.ErrSize},
		{func(f *Func) { f.Blocks[0].End.To = []int{1} }, Fault{At: 7}, api.ErrSize},
		{func(f *Func) { f.Blocks[5].End.To = []int{1} }, Fault{Block: 5}, api.ErrSize},
		{func(f *Func) { f.Blocks[6].End.Args = []int{1} }, Fault{Block: 6}, api.ErrSize},
		{func(f *Func) { f.Blocks[1].End.Args = []int{1} }, Fault{Block: 1, At: 3}, api.ErrSize},
		{func(f *Func) { f.Blocks[0].End.Args[0] = -1; f.Blocks[0].End.Call.N = 1 }, Fault{At: 7}, api.ErrRange},
		{func(f *Func) { f.Blocks[0].End.Args[0] = 100001 }, Fault{At: 7}, api.ErrRange},
		{func(f *Func) { f.Blocks[0].End.Call.N = 1; f.Blocks[0].End.To[0] = 0 }, Fault{At: 7}, api.ErrArg},
		{func(f *Func) { f.Blocks[0].End.Call.Type.Cap = 1 }, Fault{At: 7}, api.ErrArg},
		{func(f *Func) { f.Blocks[1].End.Call.Op = Send }, Fault{Block: 1, At: 3}, api.ErrArg},
		{func(f *Func) { f.Blocks[1].End.Call.Op = Native }, Fault{Block: 1, At: 3}, api.ErrArg},
		{func(f *Func) { f.Blocks[1].End.Call = Ins{} }, Fault{Block: 1, At: 3}, api.ErrArg},
		{func(f *Func) { f.Blocks[1].End.Call.Args = nil; f.Blocks[1].End.To[0] = 0 }, Fault{Block: 1, At: 3}, api.ErrSize},
		{func(f *Func) { f.Blocks[1].End.Call.Text = "" }, Fault{Block: 1, At: 3}, api.ErrForm},
		{func(f *Func) { f.Blocks[1].End.Call.Result = 1 }, Fault{Block: 1, At: 3}, api.ErrRange},
		{func(f *Func) { f.Blocks[0].End.To[1] = 0 }, Fault{At: 7}, ErrBlock},
		{func(f *Func) { f.Blocks[0].End.To[1] = -1 }, Fault{At: 7}, ErrBlock},
		{func(f *Func) { f.Blocks[0].End.To[1] = 7 }, Fault{At: 7}, ErrBlock},
		{func(f *Func) { f.Blocks[1].End.To[1] = 3 }, Fault{Block: 1, At: 3}, ErrBlock},
	} {
		f := changed(right(), c.change)
		if fault, e := CheckFunc(f); e != c.e || fault != c.fault {
			t.Errorf("%d: %v, error %d, not %v, %d", i, fault, e, c.fault, c.e)
		}
	}
}

// TestCheckFunc: what is right beyond the shape.
func TestCheckFunc(t *testing.T) {
	for i, c := range []struct {
		change func(f *Func)
		fault  Fault
		e      api.Errno
	}{
		{func(f *Func) { f.Blocks[4].End.To[1] = 5; f.Blocks[0].Ins[0].Op = Phi }, Fault{}, api.ErrForm},
		{func(f *Func) { f.Blocks[4].End.To[1] = 5; f.Blocks[0].Ins[6].Args[0] = 99 }, Fault{Block: 6}, ErrBlock},
		{func(f *Func) { f.Blocks[0].End.To[1] = 1 }, Fault{Block: 2}, ErrBlock},
		{func(f *Func) { f.Blocks[4].End.To[0] = 3; f.Blocks[2].End.To[0] = 5; f.Blocks[0].Ins[6].Args[0] = 99 }, Fault{Block: 1, At: 3}, ErrBlock},
		{func(f *Func) { f.Blocks[0].Ins[3].Result, f.Blocks[0].Ins[2].Args[0] = 40, 40 }, Fault{At: 2}, ErrUse},
		{func(f *Func) { f.Blocks[0].Ins[2].Args[0] = 12 }, Fault{At: 2}, ErrUse},
		{func(f *Func) { f.Blocks[0].Ins[2].Args[0] = 17 }, Fault{At: 2}, ErrUse},
		{func(f *Func) { f.Blocks[2].Ins[0].Args[1] = 17 }, Fault{Block: 2}, ErrUse},
		{func(f *Func) { f.Blocks[2].Ins[0].Args[1] = 16 }, Fault{}, api.OK},
		{func(f *Func) { f.Blocks[0].End.Args[0] = 20 }, Fault{At: 7}, ErrUse},
		{func(f *Func) { f.Blocks[1].End.Call.Args[1] = 20 }, Fault{Block: 1, At: 3}, ErrUse},
		{func(f *Func) { f.Blocks[1].End.Call.Args[1] = 19 }, Fault{}, api.OK},
		{func(f *Func) { f.Blocks[3].Ins = []Ins{ins(Phi, 30, 20)} }, Fault{Block: 3}, ErrUse},
		{func(f *Func) { f.Blocks[3].Ins = []Ins{ins(Is, 30, 20, 19)} }, Fault{}, api.OK},
		{func(f *Func) { f.Blocks[4].Ins[0].Args = []int{14, 20} }, Fault{Block: 4}, ErrUse},
		{func(f *Func) { f.Blocks[4].Ins[0].Args = []int{25, 14} }, Fault{Block: 4}, ErrUse},
		{func(f *Func) { f.Blocks[4].Ins[0].Args = []int{99} }, Fault{Block: 4}, ErrPhi},
		{func(f *Func) { f.Blocks[4].Ins[0].Args = []int{19, 26} }, Fault{}, api.OK},
		{func(f *Func) { f.Blocks[4].Ins = append(f.Blocks[4].Ins, ins(Phi, 30, 14, 27)) }, Fault{Block: 4, At: 1}, ErrUse},
		{func(f *Func) { f.Blocks[5].End = giveBack(27) }, Fault{}, api.OK},
		{func(f *Func) { f.Blocks[5].End = giveBack(25) }, Fault{Block: 5}, ErrUse},
		{func(f *Func) { f.Blocks[6].End = jump(4); f.Blocks[4].Ins[0].Args = []int{14, 25, 27} }, Fault{}, api.OK},
	} {
		f := changed(right(), c.change)
		if fault, e := CheckFunc(f); e != c.e || fault != c.fault {
			t.Errorf("%d: %v, error %d, not %v, %d", i, fault, e, c.fault, c.e)
		}
	}
}

func TestCheck(t *testing.T) {
	f := right()
	g := fn(0, block(giveBack(0), Ins{Op: Const}))
	g.Name = "g"
	many := make([]Func, 501)
	for i, c := range []struct {
		p     Program
		fault Fault
		e     api.Errno
	}{
		{Program{}, Fault{}, api.OK},
		{Program{Funcs: []Func{f, g}}, Fault{}, api.OK},
		{Program{Entities: make([]api.Entity, 201), Funcs: []Func{{}}}, Fault{}, api.ErrSize},
		{Program{Entities: make([]api.Entity, 200), Funcs: []Func{{}}}, Fault{}, api.ErrSize},
		{Program{Entities: make([]api.Entity, 200)}, Fault{}, api.OK},
		{Program{Funcs: many}, Fault{}, api.ErrSize},
		{Program{Funcs: []Func{g, g, {}}}, Fault{Func: 1}, api.ErrTwice},
		{Program{Funcs: []Func{f, changed(g, func(f *Func) { f.Blocks[0].End.Args[0] = 1 })}}, Fault{1, 0, 1}, ErrUse},
		{Program{Funcs: []Func{g, f, g}}, Fault{Func: 2}, api.ErrTwice},
		{Program{Funcs: []Func{f}}, Fault{Block: 2, At: 5}, api.ErrNone},
		{Program{Funcs: []Func{g, changed(f, func(f *Func) { f.Blocks[2].Ins[5].Text = "f" })}}, Fault{1, 2, 5}, api.ErrSize},
		{Program{Funcs: []Func{g, changed(f, func(f *Func) { f.Blocks[2].Ins[5].Text = "f"; f.Blocks[2].Ins[5].Args = []int{0, 0} })}}, Fault{}, api.OK},
		{Program{Funcs: []Func{g, changed(f, func(f *Func) { f.Blocks[1].End.Call.Op = Direct })}}, Fault{1, 1, 3}, api.ErrNone},
		{Program{Funcs: []Func{g, changed(f, func(f *Func) { f.Blocks[1].End.Call.Op = Direct; f.Blocks[1].End.Call.Text = "g" })}}, Fault{1, 1, 3}, api.ErrSize},
		{Program{Funcs: []Func{g, changed(f, func(f *Func) { f.Blocks[1].End.Call.Op = Direct; f.Blocks[1].End.Call.Text = "f" })}}, Fault{}, api.OK},
	} {
		if fault, e := Check(c.p); e != c.e || fault != c.fault {
			t.Errorf("%d: %v, error %d, not %v, %d", i, fault, e, c.fault, c.e)
		}
	}
	many = nil
	for i := range 500 {
		many = append(many, changed(g, func(f *Func) { f.Name = numbersText([]int{i}) }))
	}
	if _, e := Check(Program{Funcs: many}); e != api.OK {
		t.Errorf("500 functions: error %d", e)
	}
}

// TestErrors: each function with a function returns its error first.
func TestErrors(t *testing.T) {
	for _, f := range []Func{{}, changed(right(), func(f *Func) { f.Blocks[0].Ins[2].Args[0] = 99 })} {
		_, want := CheckFunc(f)
		_, e1 := Preds(f)
		_, e2 := Order(f)
		_, e3 := Dominators(f)
		_, e4 := Dominates(f, -1, 9)
		_, e5 := Frontier(f)
		_, _, e6 := Loops(f)
		_, e7 := Live(f)
		_, e8 := Uses(f)
		_, e9 := Promote(f)
		_, e10 := Clean(f)
		if slices.ContainsFunc([]api.Errno{e1, e2, e3, e4, e5, e6, e7, e8, e9, e10}, func(e api.Errno) bool { return e != want }) || want == api.OK {
			t.Error(e1, e2, e3, e4, e5, e6, e7, e8, e9, e10, want)
		}
	}
}

// TestSharedValues: values of a Lit that share memory do not take long.
func TestSharedValues(t *testing.T) {
	v := api.Value{Kind: api.ValBool}
	for range 7 {
		v = api.Value{Kind: api.ValTuple, Kids: slices.Repeat([]api.Value{v}, 64)}
	}
	f := fn(0, block(giveBack(0), Ins{Op: Const, Lit: v}))
	if _, e := CheckFunc(f); e != api.OK {
		t.Errorf("error %d", e)
	}
	if !Equal(f, f) {
		t.Error("not equal to itself")
	}
	if _, e := Print([]Func{f}); e != api.ErrLarge {
		t.Errorf("Print: error %d", e)
	}
}
