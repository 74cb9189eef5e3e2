package witness_test

import (
	"slices"
	"strconv"
	"testing"

	"hackamore/api"
	"hackamore/internal/flows"
	"hackamore/internal/pony"
	"hackamore/internal/sample"
	"hackamore/optimize"
	"hackamore/ssa"
	. "hackamore/witness"
)

func step(kind, a, b int) optimize.Step { return optimize.Step{Kind: kind, A: a, B: b} }

func fold(a int, v api.Value) optimize.Step {
	return optimize.Step{Kind: optimize.StepFold, A: a, Lit: v}
}

// TestSteps: what each step does, and when it may not be done.
func TestSteps(t *testing.T) {
	none := api.Value{Kind: api.ValUnit, Name: "None"}
	native := func(result int, text string, args ...int) ssa.Ins { return named(ssa.Native, result, text, args...) }
	phis := fn("f", 2, block(branch(0, 1, 2)), block(jump(2), ins(ssa.Is, 9, 0, 0)), block(branch(3, 2, 3), ins(ssa.Phi, 3, 0, 0, 3), ins(ssa.Phi, 4, 0, 1, 0), ins(ssa.Phi, 5, 0, 0, 3)), block(back(5), ins(ssa.Tuple, 6, 3, 4), item(7, 6, 1), item(8, 6, 2)))
	folding := fn("f", 1, block(back(7), constant(1, u8(200)), constant(2, u8(100)), native(3, "U8.add", 1, 2), native(4, "U8.add_partial", 1, 2), native(5, "U8.add", 1, 0), native(6, "Uadd", 1, 2), ins(ssa.Is, 7, 1, 2), constant(8, api.Value{Kind: u8(0).Kind, Lo: 200, Kids: []api.Value{}}), ins(ssa.Is, 10, 1, 8), native(11, "a.U8.add", 1, 2), native(12, "U8.add.x", 1, 2), ins(ssa.Tuple, 13, 1, 2)))
	shared := fn("f", 2, block(branch(0, 1, 2), constant(2, u8(1)), constant(3, u8(1)), ins(ssa.Tuple, 4, 2, 3), ins(ssa.Tuple, 5, 3, 3)), block(jump(3), ins(ssa.Is, 6, 0, 1), named(ssa.Call, 7, "m", 0), named(ssa.Call, 8, "m", 0)), block(jump(3), ins(ssa.Is, 9, 0, 1), ins(ssa.Is, 12, 0, 9)), block(back(10), ins(ssa.Phi, 10, 6, 0), ins(ssa.Phi, 11, 6, 0), ins(ssa.Is, 13, 10, 11)))
	drops := fn("f", 2, block(try(named(ssa.Call, 15, "m", 0), 1, 2), constant(2, none), named(ssa.Text, 3, "x"), named(ssa.Store, 4, "v", 0), named(ssa.Load, 5, "v"), named(ssa.Make, 6, "C"), named(ssa.Get, 7, "f", 6), named(ssa.Set, 8, "f", 6, 0), named(ssa.Call, 9, "m", 0), named(ssa.Direct, 10, "f", 0, 1), native(11, "x"), ssa.Ins{Op: ssa.Spawn, Result: 12, Name: "A", Text: "c"}, named(ssa.Send, 13, "go", 0), ssa.Ins{Op: ssa.Fits, Result: 14, Args: []int{0}}), block(jump(2)), block(branch(0, 2, 3), ins(ssa.Phi, 16, 0, 0, 16), ins(ssa.Phi, 17, 0, 0, 18), ins(ssa.Phi, 18, 0, 0, 17)), block(back(0)))
	branches := fn("f", 2, block(branch(2, 1, 2), constant(2, truth(1))), block(branch(3, 3, 3), constant(3, truth(0))), block(branch(0, 3, 3)), block(branch(0, 4, 4), ins(ssa.Phi, 5, 0, 1, 0, 0)), block(back(5), ins(ssa.Phi, 6, 0, 1)))
	joins := fn("f", 2, block(jump(3)), block(branch(0, 2, 4), ins(ssa.Phi, 5, 2), ins(ssa.Is, 7, 5, 5)), block(jump(4), ins(ssa.Is, 6, 5, 5)), block(jump(1), ins(ssa.Is, 2, 0, 0)), block(back(8), ins(ssa.Phi, 8, 7, 6)))
	loop := fn("f", 1, block(jump(1)), block(jump(1)))
	stacks := fn("f", 2, block(back(3), named(ssa.Make, 2, "C"), named(ssa.Make, 3, "C"), named(ssa.Set, 4, "f", 2, 3), named(ssa.Get, 5, "f", 2), ins(ssa.Is, 6, 2, 2), ssa.Ins{Op: ssa.Fits, Result: 7, Args: []int{2}}, ssa.Ins{Op: ssa.Make, Result: 8, Text: "C", Flag: true}, named(ssa.Text, 9, "")))
	fields := fn("f", 2, block(jump(1), named(ssa.Make, 2, "C"), named(ssa.Make, 3, "C"), named(ssa.Get, 4, "f", 2), named(ssa.Get, 5, "f", 2), named(ssa.Set, 6, "f", 2, 0), named(ssa.Set, 7, "g", 2, 1), named(ssa.Set, 8, "f", 3, 1), named(ssa.Set, 9, "f", 0, 1), named(ssa.Get, 10, "f", 2), named(ssa.Get, 11, "g", 2), named(ssa.Get, 12, "f", 0)), block(back(3), named(ssa.Get, 13, "f", 2), named(ssa.Get, 14, "f", 13), named(ssa.Get, 15, "f", 3)))
	for i, c := range []struct {
		f ssa.Func
		s optimize.Step
		e api.Errno
	}{
		{phis, step(optimize.StepCopy, 3, 0), api.OK}, {phis, step(optimize.StepCopy, 3, 3), ErrRule}, {phis, step(optimize.StepCopy, 3, 1), ErrRule}, {phis, step(optimize.StepCopy, 4, 0), ErrRule}, {phis, step(optimize.StepCopy, 4, 1), ErrRule}, {phis, step(optimize.StepCopy, 5, 0), ErrRule}, {phis, step(optimize.StepCopy, 7, 4), api.OK}, {phis, step(optimize.StepCopy, 7, 3), ErrRule}, {phis, step(optimize.StepCopy, 8, 4), ErrRule}, {phis, step(optimize.StepCopy, 0, 1), ErrRule}, {phis, step(optimize.StepCopy, 9, 0), ErrRule}, {phis, step(optimize.StepCopy, 99, 0), ErrRule}, {phis, step(optimize.StepCopy, -1, 0), ErrRule},
		{folding, fold(3, u8(44)), api.OK}, {folding, fold(3, u8(45)), ErrRule}, {folding, fold(3, api.Value{Kind: u8(0).Kind, Lo: 44, Name: "x"}), ErrRule}, {folding, fold(4, u8(44)), ErrRule}, {folding, fold(4, api.Value{}), ErrRule}, {folding, fold(5, u8(44)), ErrRule}, {folding, fold(6, u8(44)), ErrRule}, {folding, fold(7, truth(0)), api.OK}, {folding, fold(7, truth(1)), ErrRule}, {folding, fold(10, truth(1)), api.OK}, {folding, fold(11, u8(44)), ErrRule}, {folding, fold(12, u8(44)), ErrRule}, {folding, fold(1, u8(200)), ErrRule}, {folding, fold(13, u8(200)), ErrRule}, {folding, fold(0, u8(200)), ErrRule},
		{shared, step(optimize.StepCommon, 3, 2), api.OK}, {shared, step(optimize.StepCommon, 2, 3), api.OK}, {shared, step(optimize.StepCommon, 2, 2), ErrRule}, {shared, step(optimize.StepCommon, 4, 5), ErrRule}, {shared, step(optimize.StepCommon, 9, 6), ErrRule}, {shared, step(optimize.StepCommon, 6, 9), ErrRule}, {shared, step(optimize.StepCommon, 8, 7), ErrRule}, {shared, step(optimize.StepCommon, 11, 10), api.OK}, {shared, step(optimize.StepCommon, 10, 11), api.OK}, {shared, step(optimize.StepCommon, 0, 1), ErrRule}, {shared, step(optimize.StepCommon, 3, 99), ErrRule},
		{drops, step(optimize.StepDrop, 2, 0), api.OK}, {drops, step(optimize.StepDrop, 3, 0), api.OK}, {drops, step(optimize.StepDrop, 4, 0), ErrRule}, {drops, step(optimize.StepDrop, 5, 0), api.OK}, {drops, step(optimize.StepDrop, 6, 0), ErrRule}, {drops, step(optimize.StepDrop, 7, 0), api.OK}, {drops, step(optimize.StepDrop, 8, 0), ErrRule}, {drops, step(optimize.StepDrop, 9, 0), ErrRule}, {drops, step(optimize.StepDrop, 10, 0), ErrRule}, {drops, step(optimize.StepDrop, 11, 0), api.OK}, {drops, step(optimize.StepDrop, 12, 0), ErrRule}, {drops, step(optimize.StepDrop, 13, 0), ErrRule}, {drops, step(optimize.StepDrop, 14, 0), api.OK}, {drops, step(optimize.StepDrop, 15, 0), ErrRule}, {drops, step(optimize.StepDrop, 16, 0), api.OK}, {drops, step(optimize.StepDrop, 17, 0), ErrRule}, {drops, step(optimize.StepDrop, 0, 0), ErrRule},
		{branches, step(optimize.StepBranch, 0, 0), api.OK}, {branches, step(optimize.StepBranch, 0, 1), ErrRule}, {branches, step(optimize.StepBranch, 0, 2), ErrRule}, {branches, step(optimize.StepBranch, 0, -1), ErrRule}, {branches, step(optimize.StepBranch, 1, 0), ErrRule}, {branches, step(optimize.StepBranch, 1, 1), api.OK}, {branches, step(optimize.StepBranch, 2, 0), api.OK}, {branches, step(optimize.StepBranch, 2, 1), ErrRule}, {branches, step(optimize.StepBranch, 3, 0), ErrRule}, {branches, step(optimize.StepBranch, 4, 0), ErrRule}, {branches, step(optimize.StepBranch, 5, 0), ErrRule}, {branches, step(optimize.StepBranch, -1, 0), ErrRule},
		{joins, step(optimize.StepJoin, 0, 0), api.OK}, {joins, step(optimize.StepJoin, 3, 0), api.OK}, {joins, step(optimize.StepJoin, 1, 0), ErrRule}, {joins, step(optimize.StepJoin, 2, 0), ErrRule}, {joins, step(optimize.StepJoin, 4, 0), ErrRule}, {joins, step(optimize.StepJoin, -1, 0), ErrRule}, {joins, step(optimize.StepJoin, 5, 0), ErrRule}, {loop, step(optimize.StepJoin, 0, 0), ErrRule}, {loop, step(optimize.StepJoin, 1, 0), ErrRule},
		{stacks, step(optimize.StepStack, 2, 0), api.OK}, {stacks, step(optimize.StepStack, 3, 0), ErrRule}, {stacks, step(optimize.StepStack, 8, 0), ErrRule}, {stacks, step(optimize.StepStack, 9, 0), ErrRule}, {stacks, step(optimize.StepStack, 0, 0), ErrRule},
		{fields, step(optimize.StepField, 4, 0), ErrRule}, {fields, step(optimize.StepField, 4, -1), ErrRule}, {fields, step(optimize.StepField, 5, 4), api.OK}, {fields, step(optimize.StepField, 10, 0), api.OK}, {fields, step(optimize.StepField, 10, 5), ErrRule}, {fields, step(optimize.StepField, 10, 1), ErrRule}, {fields, step(optimize.StepField, 11, 1), api.OK}, {fields, step(optimize.StepField, 12, 1), ErrRule}, {fields, step(optimize.StepField, 13, 0), ErrRule}, {fields, step(optimize.StepField, 15, 1), ErrRule}, {fields, step(optimize.StepField, 6, 0), ErrRule},
		{phis, optimize.Step{}, ErrStep}, {phis, step(11, 3, 0), ErrStep}, {phis, step(-1, 3, 0), ErrStep}, {phis, optimize.Step{Kind: optimize.StepCopy, Func: 1, A: 3}, ErrStep}, {phis, optimize.Step{Kind: optimize.StepCopy, Func: -1, A: 3}, ErrStep}, {phis, optimize.Step{Kind: optimize.StepCopy, A: 3, Text: "x"}, ErrStep}, {phis, optimize.Step{Kind: optimize.StepCopy, A: 3, Lit: u8(0)}, ErrStep}, {phis, optimize.Step{Kind: optimize.StepCopy, A: 3, Lit: api.Value{Kids: []api.Value{}}}, api.OK},
		{folding, optimize.Step{Kind: optimize.StepFold, A: 3, B: 1, Lit: u8(44)}, ErrStep}, {folding, optimize.Step{Kind: optimize.StepFold, A: 3, Text: "x", Lit: u8(44)}, ErrStep}, {drops, step(optimize.StepDrop, 2, 1), ErrStep}, {joins, step(optimize.StepJoin, 0, 1), ErrStep}, {drops, step(optimize.StepInline, 2, 1), ErrStep}, {stacks, step(optimize.StepStack, 2, 1), ErrStep}, {stacks, optimize.Step{Kind: optimize.StepDirect, A: 2, B: 1, Text: "x"}, ErrStep}, {fields, optimize.Step{Kind: optimize.StepField, A: 5, B: 4, Text: "x"}, ErrStep}, {branches, optimize.Step{Kind: optimize.StepBranch, Lit: u8(1)}, ErrStep},
	} {
		q, e := Apply(program(c.f), c.s)
		if e != c.e || e != api.OK && len(q.Funcs) > 0 {
			t.Errorf("%d: %v: error %d, not %d", i, c.s, e, c.e)
		}
		if _, right := ssa.Check(q); right != api.OK {
			t.Errorf("%d: not right: %d", i, right)
		}
	}
	if _, e := Apply(ssa.Program{Funcs: []ssa.Func{{}}}, optimize.Step{}); e != api.ErrSize {
		t.Errorf("error %d", e)
	}
}

// TestResults: what steps leave behind.
func TestResults(t *testing.T) {
	callee := fn("g", 2, block(branch(0, 1, 2), ins(ssa.Tuple, 7, 0, 1)), block(back(7)), block(try(named(ssa.Call, 5, "m", 1), 3, 1)), block(back(5), ins(ssa.Is, 9, 5, 1)))
	caller := fn("f", 1, block(jump(1)), block(branch(0, 1, 2), ins(ssa.Phi, 3, 0, 8), ins(ssa.Is, 4, 3, 0), ssa.Ins{Op: ssa.Direct, Result: 8, Text: "g", Args: []int{4, 3}, Type: api.Type{Name: "R"}}, ins(ssa.Is, 6, 8, 4)), block(back(6), ins(ssa.Phi, 9, 8)))
	inlined := fn("f", 1, block(jump(1)), block(jump(2), ins(ssa.Phi, 3, 0, 8), ins(ssa.Is, 4, 3, 0)),
		block(branch(4, 3, 4), ins(ssa.Tuple, 10, 4, 3)), block(jump(6)), block(try(named(ssa.Call, 11, "m", 3), 5, 3)), block(jump(6), ins(ssa.Is, 12, 11, 3)),
		block(branch(0, 1, 7), ssa.Ins{Op: ssa.Phi, Result: 8, Type: api.Type{Name: "R"}, Args: []int{10, 11}}, ins(ssa.Is, 6, 8, 4)), block(back(6), ins(ssa.Phi, 9, 8)))
	joins := fn("f", 2, block(jump(3)), block(branch(0, 2, 4), ins(ssa.Phi, 5, 2), ins(ssa.Is, 7, 5, 5)), block(jump(4), ins(ssa.Is, 6, 5, 5)), block(jump(1), ins(ssa.Is, 2, 0, 0)), block(back(8), ins(ssa.Phi, 8, 7, 6)))
	joined := fn("f", 2, block(jump(2)), block(jump(3), ins(ssa.Is, 6, 2, 2)), block(branch(0, 1, 3), ins(ssa.Is, 2, 0, 0), ins(ssa.Is, 7, 2, 2)), block(back(8), ins(ssa.Phi, 8, 6, 7)))
	branches := fn("f", 2, block(branch(2, 2, 1), constant(2, truth(1))), block(jump(3), ins(ssa.Is, 4, 0, 0)), block(jump(3)), block(back(5), ins(ssa.Phi, 5, 4, 1)))
	for i, c := range []struct {
		f, want ssa.Func
		s       optimize.Step
	}{
		{caller, inlined, step(optimize.StepInline, 8, 0)},
		{joins, joined, step(optimize.StepJoin, 3, 0)},
		{branches, fn("f", 2, block(jump(1), constant(2, truth(1))), block(jump(2)), block(back(5), ins(ssa.Phi, 5, 1))), step(optimize.StepBranch, 0, 0)},
		{fn("f", 2, block(branch(0, 1, 1)), block(back(2), ins(ssa.Phi, 2, 1, 1))), fn("f", 2, block(jump(1)), block(back(2), ins(ssa.Phi, 2, 1))), step(optimize.StepBranch, 0, 0)},
		{fn("f", 2, block(back(4), constant(2, u8(9)), constant(3, u8(1)), ssa.Ins{Op: ssa.Native, Result: 4, Text: "U8.add", Args: []int{2, 3}, Type: api.Type{Name: "R"}})), fn("f", 2, block(back(4), constant(2, u8(9)), constant(3, u8(1)), ssa.Ins{Op: ssa.Const, Result: 4, Lit: u8(10), Type: api.Type{Name: "R"}})), fold(4, u8(10))},
		{fn("f", 1, block(jump(1)), block(branch(3, 1, 2), ins(ssa.Phi, 3, 0, 3)), block(back(3))), fn("f", 1, block(jump(1)), block(branch(0, 1, 2), ins(ssa.Phi, 3, 0, 0)), block(back(0))), step(optimize.StepCopy, 3, 0)},
		{fn("f", 1, block(back(3), named(ssa.Make, 1, "C"), named(ssa.Set, 2, "f", 1, 0), named(ssa.Get, 3, "f", 1))), fn("f", 1, block(back(0), named(ssa.Make, 1, "C"), named(ssa.Set, 2, "f", 1, 0))), step(optimize.StepField, 3, 0)},
		{fn("f", 1, block(back(2), ins(ssa.Is, 1, 0, 0), ins(ssa.Is, 2, 0, 0))), fn("f", 1, block(back(1), ins(ssa.Is, 1, 0, 0))), step(optimize.StepCommon, 2, 1)},
	} {
		q, e := Apply(program(c.f, callee), c.s)
		if want := program(c.want, callee); e != api.OK || text(t, q) != text(t, want) {
			t.Errorf("%d: error %d:\n%s\nnot\n%s", i, e, text(t, q), text(t, want))
		}
	}
	direct := named(ssa.Direct, 5, "g", 0, 0)
	for i, c := range []struct {
		change func(f, g *ssa.Func)
		e      api.Errno
	}{
		{func(f, g *ssa.Func) {}, api.OK}, {func(f, g *ssa.Func) { g.Partial = true }, ErrRule}, {func(f, g *ssa.Func) { g.Blocks = []ssa.Block{block(ssa.End{Kind: ssa.Stuck})} }, ErrRule}, {func(f, g *ssa.Func) { g.Blocks[1].End = ssa.End{Kind: ssa.Error} }, ErrRule}, {func(f, g *ssa.Func) { g.Blocks[1].End = ssa.End{Kind: ssa.Stuck} }, api.OK},
		{func(f, g *ssa.Func) { g.Blocks[1].Ins = []ssa.Ins{named(ssa.Store, 9, "v", 0)} }, ErrRule}, {func(f, g *ssa.Func) { g.Blocks[1].Ins = []ssa.Ins{named(ssa.Direct, 9, "g", 0, 0)} }, api.OK}, {func(f, g *ssa.Func) { f.Blocks[0].Ins[0].Text = "f" }, ErrRule}, {func(f, g *ssa.Func) { f.Blocks[0].Ins[0].Op = ssa.Call }, ErrRule},
		{func(f, g *ssa.Func) { f.Blocks[0].Ins[0].Result = 99999; f.Blocks[0].End.Args[0] = 0 }, api.OK}, {func(f, g *ssa.Func) {
			f.Blocks[0].Ins[0].Result = 100000
			f.Blocks[0].End.Args[0] = 0
			g.Blocks[1].Ins = []ssa.Ins{ins(ssa.Is, 9, 0, 0)}
		}, ErrRule}, {func(f, g *ssa.Func) {
			for range 396 {
				f.Blocks = append(f.Blocks, block(back(0)))
				f.Blocks[len(f.Blocks)-2].End = jump(len(f.Blocks) - 1)
			}
		}, ErrRule}, {func(f, g *ssa.Func) {
			for range 395 {
				f.Blocks = append(f.Blocks, block(back(0)))
				f.Blocks[len(f.Blocks)-2].End = jump(len(f.Blocks) - 1)
			}
		}, api.OK},
	} {
		f := fn("f", 2, block(back(5), direct))
		g := fn("g", 2, block(branch(0, 1, 2)), block(back(0)), block(back(1)))
		c.change(&f, &g)
		if _, e := Apply(program(f, g), optimize.Step{Kind: optimize.StepInline, A: f.Blocks[0].Ins[0].Result}); e != c.e {
			t.Errorf("%d: error %d, not %d", i, e, c.e)
		}
	}
	try := fn("f", 1, block(try(named(ssa.Direct, 5, "g", 0, 0), 1, 2)), block(back(5)), block(back(0)))
	if _, e := Apply(program(try, callee), step(optimize.StepInline, 5, 0)); e != ErrRule {
		t.Errorf("of a try: error %d", e)
	}
}

const shapes = `
interface Sound
  fun box m(): U8
interface Both
  fun box m(): U8
  fun box n(): U8
trait Named
  fun box m(): U8
class Dog is Named
  new create() => None
  fun box m(): U8 => U8(1)
class Cat
  new create() => None
  fun box m(): U8 => U8(2)
  fun box n(): U8 => U8(2)
class Dot
  new create() => None
actor Main
  new create(env: Env) => None
  fun tag all(d: Dog, c: Cat, e: Dot, s: Sound, b: Both, n: Named): None => None
`

func named2(names ...string) []ssa.Func {
	var l []ssa.Func
	for _, n := range names {
		l = append(l, fn(n, 1, block(back(0))))
	}
	return l
}

// TestTargets: for each kind of type, and the calls that become directs.
func TestTargets(t *testing.T) {
	p := ssa.Program{Entities: pony.Program(shapes), Funcs: named2("main.Dog.m", "main.Cat.m", "main.Cat.n", "main.Main.n")}
	for i, c := range []struct {
		typ, method string
		want        []string
		e           api.Errno
	}{
		{"main.Dog ref", "m", []string{"main.Dog.m"}, 0}, {"main.Dog iso^", "m", []string{"main.Dog.m"}, 0}, {"main.Dog tag", "n", nil, api.ErrNone}, {"main.Named box", "m", []string{"main.Dog.m"}, 0}, {"main.Sound ref", "m", []string{"main.Cat.m", "main.Dog.m"}, 0}, {"main.Both box", "m", []string{"main.Cat.m"}, 0}, {"main.Both box", "n", []string{"main.Cat.n"}, 0}, {"main.Sound box", "n", nil, api.ErrNone},
		{"(main.Dog ref | main.Cat val)", "m", []string{"main.Cat.m", "main.Dog.m"}, 0}, {"(main.Dog ref | main.Named val)", "m", []string{"main.Dog.m"}, 0}, {"(main.Sound ref & main.Both box)", "m", []string{"main.Cat.m"}, 0}, {"(main.Dog ref & main.Cat ref)", "m", nil, 0}, {"(this -> main.Cat ref)", "m", []string{"main.Cat.m"}, 0}, {"(main.Dog ref, main.Cat ref)", "m", nil, 0}, {"this ref", "m", nil, 0}, {"$A ref", "m", nil, 0}, {"main.Nope val", "m", nil, 0}, {"main.Dot val", "m", nil, api.ErrNone}, {"main.Main tag", "n", []string{"main.Main.n"}, 0}, {"Any tag", "m", nil, api.ErrNone}, {"-", "m", nil, api.ErrForm},
	} {
		l, e := Targets(p, pony.Type(c.typ), c.method)
		if e != c.e || !slices.Equal(l, c.want) {
			t.Errorf("%d: %v, error %d, not %v, %d", i, l, e, c.want, c.e)
		}
		// A call of a parameter, of what an instruction makes, and of what a try makes, each with one Arg and with two.
		typ := pony.Type(c.typ)
		call := named(ssa.Call, 9, c.method, 0)
		f := fn("f", 1, block(try(ssa.Ins{Op: ssa.Call, Result: 8, Text: c.method, Args: []int{0}, Type: typ}, 1, 2), call), block(back(0), named(ssa.Call, 10, c.method, 8), named(ssa.Call, 11, c.method, 8, 0)), block(back(0)))
		f.Params[0] = typ
		q := ssa.Program{Entities: p.Entities, Funcs: append(slices.Clone(p.Funcs), f)}
		want := ErrRule
		if c.e == api.OK && len(c.want) == 1 {
			want = api.OK
		}
		for _, a := range []int{8, 9, 10} {
			s := optimize.Step{Kind: optimize.StepDirect, Func: 4, A: a}
			if len(c.want) > 0 {
				s.Text = c.want[0]
			}
			g, e := Apply(q, s)
			if e != want {
				t.Errorf("%d: %d becomes a direct: error %d, not %d", i, a, e, want)
			}
			if e == api.OK && a == 9 && (g.Funcs[4].Blocks[0].Ins[0].Op != ssa.Direct || g.Funcs[4].Blocks[0].Ins[0].Text != c.want[0]) {
				t.Errorf("%d: %v", i, g.Funcs[4])
			}
			s.Text += "x"
			if _, e := Apply(q, s); e != ErrRule {
				t.Errorf("%d: another text: error %d", i, e)
			}
		}
		if len(c.want) > 0 {
			if _, e := Apply(q, optimize.Step{Kind: optimize.StepDirect, Func: 4, A: 11, Text: c.want[0]}); e != ErrRule {
				t.Errorf("%d: with two Args: error %d", i, e)
			}
		}
	}
	if _, e := Targets(ssa.Program{Funcs: []ssa.Func{{}}}, api.Type{}, "m"); e != api.ErrSize {
		t.Errorf("error %d", e)
	}
	for _, a := range []int{0, 5, 99, -1} {
		if _, e := Apply(p, optimize.Step{Kind: optimize.StepDirect, A: a, Text: "main.Dog.m"}); e != ErrRule {
			t.Errorf("%d: error %d", a, e)
		}
	}
}

func TestEscapes(t *testing.T) {
	with := func(end ssa.End, l ...ssa.Ins) ssa.Func {
		return fn("f", 1, block(end, append([]ssa.Ins{named(ssa.Make, 1, "C")}, l...)...), block(back(0)), block(back(0)))
	}
	for i, c := range []struct {
		f    ssa.Func
		want bool
	}{
		{with(branch(0, 1, 2)), false}, {with(branch(1, 1, 2)), true}, {with(branch(0, 1, 2), named(ssa.Get, 2, "f", 1)), false}, {with(branch(0, 1, 2), named(ssa.Set, 2, "f", 1, 0)), false}, {with(branch(0, 1, 2), named(ssa.Set, 2, "f", 0, 1)), true}, {with(branch(0, 1, 2), named(ssa.Set, 2, "f", 1, 1)), true}, {with(branch(0, 1, 2), ins(ssa.Is, 2, 0, 1)), false}, {with(branch(0, 1, 2), ssa.Ins{Op: ssa.Fits, Result: 2, Args: []int{1}}), false},
		{with(branch(0, 1, 2), named(ssa.Call, 2, "m", 1)), true}, {with(branch(0, 1, 2), ins(ssa.Tuple, 2, 0, 1)), true}, {with(branch(0, 1, 2), named(ssa.Store, 2, "v", 1)), true}, {with(branch(0, 1, 2), named(ssa.Native, 2, "m", 1)), true}, {with(branch(0, 1, 2), named(ssa.Send, 2, "m", 0, 1)), true}, {with(try(named(ssa.Call, 2, "m", 0, 1), 1, 2)), true},
		{fn("f", 1, block(jump(1), named(ssa.Make, 1, "C")), block(back(0), ins(ssa.Phi, 2, 1))), true}, {fn("f", 1, block(back(1), named(ssa.Make, 1, "C"))), true},
	} {
		if got, e := Escapes(c.f, 1); e != api.OK || got != c.want {
			t.Errorf("%d: %v, error %d", i, got, e)
		}
		for _, v := range []int{0, 2, 99, -1} {
			if got, e := Escapes(c.f, v); got || e != api.ErrNone {
				t.Errorf("%d: of %d: %v, error %d", i, v, got, e)
			}
		}
	}
	if _, e := Escapes(ssa.Func{}, 0); e != api.ErrSize {
		t.Errorf("error %d", e)
	}
	pure := []int{ssa.Const, ssa.Native, ssa.Tuple, ssa.Item, ssa.Is, ssa.Fits}
	for op := -1; op < 20; op++ {
		if Pure(ssa.Ins{Op: op}) != slices.Contains(pure, op) {
			t.Errorf("Pure of %d", op)
		}
	}
}

// TestChance does steps by chance, and checks P22.2, P22.3 and P22.4.
func TestChance(t *testing.T) {
	done := map[int]int{}
	for seed := range 250 {
		pick := sample.Source(uint64(seed))
		p := chance(pick, seed)
		if fault, e := ssa.Check(p); e != api.OK {
			t.Fatalf("seed %d: error %d at %v", seed, e, fault)
		}
		first := p
		var l []optimize.Step
		for range 12 {
			all := steps(p, []int{1, 2, 3, 5, 6, 7, 9, 10, 4}[pick(9)])
			var may []optimize.Step
			for range 60 * min(len(all), 1) {
				s := all[pick(len(all))]
				if _, e := Apply(p, s); e == api.OK {
					may = append(may, s)
				}
			}
			if len(may) == 0 {
				continue
			}
			s := may[pick(len(may))]
			q, _ := Apply(p, s)
			done[s.Kind]++
			checkStep(t, seed, p, q, s, pick)
			l = append(l, s)
			p = q
		}
		if n, e := Check(first, p, l); n != 0 || e != api.OK {
			t.Fatalf("seed %d: Check: %d, error %d", seed, n, e)
		}
		if len(l) > 1 {
			n := pick(len(l))
			q := first
			for _, s := range l[:n] {
				q, _ = Apply(q, s)
			}
			if at, e := Check(first, q, l[:n]); at != 0 || e != api.OK {
				t.Errorf("seed %d: the first %d: error %d", seed, n, e)
			}
			if isBack := slices.EqualFunc(p.Funcs, q.Funcs, ssa.Equal); !isBack {
				if at, e := Check(first, p, l[:n]); at != n || e != ErrResult {
					t.Errorf("seed %d: another program: %d, error %d", seed, at, e)
				}
			}
			bad := append(slices.Clone(l[:n]), optimize.Step{Kind: optimize.StepStack, A: 9999})
			if at, e := Check(first, p, bad); at != n || e != ErrRule {
				t.Errorf("seed %d: a bad step: %d, error %d", seed, at, e)
			}
		}
	}
	for _, kind := range []int{1, 2, 3, 4, 5, 6, 7, 9, 10} {
		if done[kind] < 4 {
			t.Errorf("steps that were done: %v", done)
		}
	}
}

// checkStep checks what a step has done: that the program is right, does the same, and is smaller.
func checkStep(t *testing.T, seed int, p, q ssa.Program, s optimize.Step, pick func(int) int) {
	t.Helper()
	if fault, e := ssa.Check(q); e != api.OK {
		t.Fatalf("seed %d: %v: not right: %d at %v", seed, s, e, fault)
	}
	for i := range p.Funcs {
		for range 3 {
			args := []int{pick(4), pick(4)}[:len(p.Funcs[i].Params)]
			if a, b := flows.Play(p, p.Funcs[i], args), flows.Play(q, q.Funcs[i], args); !alike(a, b) {
				t.Fatalf("seed %d: %v: with %v:\n%q\n%q\n%s\n%s", seed, s, args, a, b, text(t, p), text(t, q))
			}
		}
		if i != s.Func && !ssa.Equal(p.Funcs[i], q.Funcs[i]) {
			t.Errorf("seed %d: %v changes another function", seed, s)
		}
	}
	f, g := p.Funcs[s.Func], q.Funcs[s.Func]
	a1, b1, c1 := measure(f)
	a2, b2, c2 := measure(g)
	switch s.Kind {
	case optimize.StepInline, optimize.StepStack:
	default:
		if !(a2 < a1 || b2 < b1 || c2 < c1 || usesOf(g, s.A) < usesOf(f, s.A)) && (s.Kind != optimize.StepCopy || usesOf(f, s.A) > 0) && s.Kind != optimize.StepBranch {
			t.Errorf("seed %d: %v makes nothing less", seed, s)
		}
	}
}

func TestCheck(t *testing.T) {
	p := program(fn("f", 1, block(back(2), constant(1, u8(1)), constant(2, u8(1)))))
	q := program(fn("f", 1, block(back(7), constant(7, u8(1)))))
	common := step(optimize.StepCommon, 2, 1)
	with := func(change func(e *api.Entity)) ssa.Program {
		e := api.Entity{Kind: 1, Name: "E", Bounds: []api.Bound{{Name: "b"}}, Provides: []api.Type{{Kind: 1}}, Fields: []api.Field{{Name: "f"}}, Methods: []api.Method{{Name: "m", Params: []api.Param{{Name: "p"}}}}}
		if change != nil {
			change(&e)
		}
		return ssa.Program{Entities: []api.Entity{e}}
	}
	for i, c := range []struct {
		p, q ssa.Program
		l    []optimize.Step
		n    int
		e    api.Errno
	}{
		{p, q, []optimize.Step{common}, 0, 0}, {p, p, nil, 0, 0}, {p, q, nil, 0, ErrResult}, {p, p, []optimize.Step{common}, 1, ErrResult}, {p, q, []optimize.Step{common, common}, 1, ErrRule}, {p, q, []optimize.Step{{}}, 0, ErrStep}, {p, q, []optimize.Step{common, {}}, 1, ErrStep}, {ssa.Program{}, ssa.Program{}, nil, 0, 0},
		{ssa.Program{Funcs: []ssa.Func{{}}}, q, make([]optimize.Step, 20001), 0, api.ErrSize}, {program(fn("f", 0, block(back(0)))), q, make([]optimize.Step, 20001), 0, ssa.ErrUse}, {p, q, make([]optimize.Step, 20001), 0, api.ErrSize}, {p, q, make([]optimize.Step, 20000), 0, ErrStep}, {p, program(), nil, 0, ErrResult}, {p, program(ssa.Func{}), nil, 0, ErrResult}, {program(), program(ssa.Func{}), nil, 0, ErrResult},
		{with(nil), with(nil), nil, 0, 0}, {with(nil), ssa.Program{}, nil, 0, ErrResult}, {with(nil), with(func(e *api.Entity) { e.Kind = 2 }), nil, 0, ErrResult}, {with(nil), with(func(e *api.Entity) { e.Name = "F" }), nil, 0, ErrResult}, {with(nil), with(func(e *api.Entity) { e.Cap = 2 }), nil, 0, ErrResult}, {with(nil), with(func(e *api.Entity) { e.Bounds[0].Type.Cap = 2 }), nil, 0, ErrResult}, {with(nil), with(func(e *api.Entity) { e.Provides[0].Mark = 2 }), nil, 0, ErrResult}, {with(nil), with(func(e *api.Entity) { e.Provides[0].Args = []api.Type{} }), nil, 0, 0}, {with(nil), with(func(e *api.Entity) { e.Fields[0].Let = true }), nil, 0, ErrResult}, {with(nil), with(func(e *api.Entity) { e.Fields[0].Type.Name = "x" }), nil, 0, ErrResult},
		{with(nil), with(func(e *api.Entity) { e.Methods[0].Partial = true }), nil, 0, ErrResult}, {with(nil), with(func(e *api.Entity) { e.Methods[0].Params[0].Name = "q" }), nil, 0, ErrResult}, {with(nil), with(func(e *api.Entity) { e.Methods[0].Result.Kind = 1 }), nil, 0, ErrResult}, {with(nil), with(func(e *api.Entity) { e.Methods[0].Body.Kids = []api.Expr{{}} }), nil, 0, ErrResult}, {with(nil), with(func(e *api.Entity) { e.Methods[0].Body.Types = []api.Type{{}} }), nil, 0, ErrResult}, {with(nil), with(func(e *api.Entity) { e.Methods[0].Cap = 1 }), nil, 0, ErrResult}, {with(nil), with(func(e *api.Entity) { e.Methods[0].Kind = 1 }), nil, 0, ErrResult}, {with(nil), with(func(e *api.Entity) { e.Methods[0].Bounds = e.Bounds }), nil, 0, ErrResult},
	} {
		if n, e := Check(c.p, c.q, c.l); n != c.n || e != c.e {
			t.Errorf("%d: %d, error %d, not %d, %d", i, n, e, c.n, c.e)
		}
	}
}

// TestUnchanged: a step changes nothing of the program that is handed in.
func TestUnchanged(t *testing.T) {
	for seed := range 40 {
		pick := sample.Source(uint64(seed))
		p := chance(pick, seed)
		ahead := text(t, p)
		all := steps(p, 1, 2, 3, 4, 5, 6, 7, 9, 10)
		for range 200 {
			Apply(p, all[pick(len(all))])
		}
		if text(t, p) != ahead {
			t.Errorf("seed %s", strconv.Itoa(seed))
		}
	}
}
