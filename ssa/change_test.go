package ssa_test

import (
	"reflect"
	"slices"
	"testing"

	"hackamore/api"
	"hackamore/internal/flows"
	"hackamore/internal/sample"
	. "hackamore/ssa"
)

func TestClean(t *testing.T) {
	f := fn(2,
		block(branch(0, 4, 3), ins(Tuple, 9, 0, 1)),
		block(jump(3), ins(Tuple, 30, 9, 77)),
		block(jump(1)),
		block(giveBack(5), ins(Phi, 20, 9, 30, 1), Ins{Op: Item, Result: 5, Args: []int{20}}),
		block(try(named(Call, 8, "m", 9), 5, 3)),
		block(giveBack(8), ins(Is, 7, 8, 8)),
	)
	want := fn(2,
		block(branch(0, 2, 1), ins(Tuple, 2, 0, 1)),
		block(giveBack(4), ins(Phi, 3, 2, 1), Ins{Op: Item, Result: 4, Args: []int{3}}),
		block(try(named(Call, 5, "m", 2), 3, 1)),
		block(giveBack(5), ins(Is, 6, 5, 5)),
	)
	got, e := Clean(f)
	if e != api.OK || !reflect.DeepEqual(got, want) {
		t.Errorf("error %d: %v", e, got)
	}
	for i, c := range []struct {
		f Func
		e api.Errno
	}{
		{changed(f, func(f *Func) { f.Blocks[1].End.To[0] = 0 }), ErrBlock},
		{changed(f, func(f *Func) { f.Blocks[1].Ins[0].Op = 99 }), api.ErrArg},
		{changed(f, func(f *Func) { f.Blocks[3].Ins[0].Args = []int{9, 1} }), api.OK},
		{changed(f, func(f *Func) { f.Blocks[3].Ins[0].Args = []int{9} }), ErrPhi},
		{changed(f, func(f *Func) { f.Blocks[3].Ins[0].Args[2] = 30 }), ErrUse},
		{changed(f, func(f *Func) { f.Blocks[3].Ins[0].Args[2] = 99 }), ErrUse},
		{changed(f, func(f *Func) { f.Blocks[5].Ins[0].Args[0] = 100000 }), ErrUse},
		{changed(f, func(f *Func) { f.Blocks[2].End.To[0] = 5 }), api.OK},
		{changed(f, func(f *Func) { f.Blocks[3].End = jump(5) }), ErrBlock},
	} {
		if _, e := Clean(c.f); e != c.e {
			t.Errorf("%d: error %d, not %d", i, e, c.e)
		}
	}
}

// renumbered returns a function with other numbers for its values.
func renumbered(f Func, pick func(int) int) Func {
	to := map[int]int{}
	for i := range f.Params {
		to[i] = i
	}
	taken := map[int]bool{}
	number := func(v *int) {
		if _, ok := to[*v]; !ok {
			n := len(f.Params) + pick(3000)
			for taken[n] {
				n++
			}
			taken[n] = true
			to[*v] = n
		}
		*v = to[*v]
	}
	return changed(f, func(f *Func) {
		for b := range f.Blocks {
			x := &f.Blocks[b]
			for i := range x.Ins {
				number(&x.Ins[i].Result)
			}
			if x.End.Kind == Try {
				number(&x.End.Call.Result)
			}
		}
		for b := range f.Blocks {
			x := &f.Blocks[b]
			for i := range x.Ins {
				for k := range x.Ins[i].Args {
					number(&x.Ins[i].Args[k])
				}
			}
			for _, l := range [][]int{x.End.Args, x.End.Call.Args} {
				for k := range l {
					number(&l[k])
				}
			}
		}
	})
}

// spoiled returns a function in which one thing is another one.
func spoiled(f Func, pick func(int) int) Func {
	return changed(f, func(f *Func) {
		b := &f.Blocks[pick(len(f.Blocks))]
		if len(b.Ins) == 0 || pick(4) == 0 {
			f.Partial = !f.Partial
			return
		}
		x := &b.Ins[pick(len(b.Ins))]
		switch k := pick(4); {
		case k == 0:
			x.Type.Mark++
		case k == 1 && x.Op != Const && len(x.Args) > 0:
			x.Args[0] = 99999
		case k == 2 && x.Text != "":
			x.Text += "x"
		case x.Op == Const:
			x.Lit.Hi++
		default:
			x.Type.Args = append(x.Type.Args, api.Type{Kind: 1})
		}
	})
}

// TestCleaning checks P19.5.
func TestCleaning(t *testing.T) {
	for seed, f := range chances(200, true) {
		pick := sample.Source(uint64(seed) + 1000)
		once, e := Clean(f)
		if e != api.OK || !Equal(once, f) || !Equal(f, once) || !Equal(f, f) {
			t.Fatalf("seed %d: error %d, or not equal", seed, e)
		}
		twice, _ := Clean(once)
		if text(t, twice) != text(t, once) {
			t.Errorf("seed %d: twice", seed)
		}
		g := renumbered(f, pick)
		if again, e := Clean(g); e != api.OK || text(t, again) != text(t, once) || !Equal(f, g) || !Equal(g, f) || !Equal(g, once) {
			t.Errorf("seed %d: with other numbers: error %d", seed, e)
		}
		h := spoiled(g, pick)
		if Equal(f, h) || Equal(h, f) || Equal(once, h) || !Equal(h, h) {
			t.Errorf("seed %d: spoiled, but equal", seed)
		}
	}
}

func TestEqual(t *testing.T) {
	f := right()
	for i, c := range []struct {
		change func(f *Func)
		want   bool
	}{
		{func(f *Func) {}, true},
		{func(f *Func) { f.Name = "g" }, false},
		{func(f *Func) { f.Partial = true }, false},
		{func(f *Func) { f.Result.Name = "g" }, false},
		{func(f *Func) { f.Result.Args = []api.Type{} }, true},
		{func(f *Func) { f.Params[1].Cap = 1 }, false},
		{func(f *Func) { f.Params = append(f.Params, api.Type{}) }, false},
		{func(f *Func) { f.Blocks[0].Ins[0].Lit.Kids = []api.Value{} }, true},
		{func(f *Func) { f.Blocks[0].Ins[0].Lit.Kids = []api.Value{{}} }, false},
		{func(f *Func) { f.Blocks[0].Ins[0].Lit.Lo = 0 }, false},
		{func(f *Func) { f.Blocks[0].Ins[0].Lit.Name = "x" }, false},
		{func(f *Func) { f.Blocks[0].Ins[4].Flag = true }, false},
		{func(f *Func) { f.Blocks[1].Ins[1].Name = "B" }, false},
		{func(f *Func) { f.Blocks[2].Ins[1].N = 1 }, false},
		{func(f *Func) { f.Blocks[3].Ins = []Ins{} }, true},
		{func(f *Func) { f.Blocks[4].End.To = []int{6, 5} }, false},
		{func(f *Func) { f.Blocks[1].End.Call.Text = "n" }, false},
		{func(f *Func) { f.Blocks[1].End.Call.Args[1] = 1 }, false},
		{func(f *Func) { f.Blocks[1].End.Call.Op = Direct }, false},
		{func(f *Func) { f.Blocks[5].End.Kind = Stuck }, false},
		{func(f *Func) { f.Blocks[2].Ins[3].Op = Direct }, false},
		{func(f *Func) { f.Blocks[2].Ins = f.Blocks[2].Ins[:5] }, false},
		{func(f *Func) { f.Blocks = append(f.Blocks, f.Blocks[6]) }, false},
		{func(f *Func) { f.Blocks[2].Ins[0].Result = 1 }, false},
	} {
		g := changed(f, c.change)
		if Equal(f, g) != c.want || Equal(g, f) != c.want {
			t.Errorf("%d: not %v", i, c.want)
		}
	}
	if Equal(Func{}, Func{}) {
		t.Error("a wrong shape is equal")
	}
	unused := func(a, b int) Func {
		return fn(1, block(giveBack(0), ins(Is, 5, a, b)), block(jump(1), ins(Is, 6, 5, 6)))
	}
	if !Equal(unused(70, 80), unused(90, 90)) || Equal(unused(70, 0), unused(90, 90)) || !Equal(unused(6, 5), unused(6, 5)) || Equal(unused(6, 5), unused(5, 6)) {
		t.Error("values that nothing makes")
	}
}

func load(result int, name string) Ins { return named(Load, result, name) }

func store(result int, name string, v int) Ins {
	return Ins{Op: Store, Result: result, Text: name, Args: []int{v}, Type: api.Type{Name: name + numbersText([]int{result})}}
}

func phi(result int, typ string, args ...int) Ins {
	return Ins{Op: Phi, Result: result, Type: api.Type{Name: typ}, Args: args}
}

func TestPromote(t *testing.T) {
	for i, c := range []struct {
		f, want Func
		e       api.Errno
	}{
		{fn(3, block(branch(0, 1, 2)), block(jump(3), store(10, "x", 1)), block(jump(3), store(11, "x", 2)), block(giveBack(12), load(12, "x"))),
			fn(3, block(branch(0, 1, 2)), block(jump(3)), block(jump(3)), block(giveBack(3), phi(3, "x10", 1, 2))), 0},
		{fn(3, block(branch(0, 1, 2)), block(jump(3), store(10, "x", 1)), block(jump(3)), block(giveBack(12), load(12, "x"))), Func{}, ErrUse},
		{fn(3, block(branch(0, 1, 2)), block(jump(3), store(10, "x", 1)), block(jump(3)), block(giveBack(1), store(12, "x", 0))),
			fn(3, block(branch(0, 1, 2)), block(jump(3)), block(jump(3)), block(giveBack(1))), 0},
		{fn(3, block(branch(0, 1, 2)), block(jump(3), store(10, "x", 1)), block(jump(3)), block(giveBack(12), store(12, "x", 0))), Func{}, ErrUse},
		{fn(1, block(giveBack(0), load(1, "x"))), Func{}, ErrUse},
		{fn(1, block(giveBack(0), store(1, "x", 0), load(2, "x"), store(3, "y", 2), store(4, "y", 3))), Func{}, ErrUse},
		{fn(2, block(giveBack(9), store(5, "x", 1), load(6, "x"), store(7, "x", 0), store(8, "x", 6), ins(Tuple, 9, 7, 8, 6))),
			fn(2, block(giveBack(2), ins(Tuple, 2, 1, 0, 1))), 0},
		// A loop with two variables, whose phis stand in the order in which the names are met, behind the phi that is there.
		{fn(2, block(jump(1), store(5, "b", 0), store(6, "a", 1)), block(branch(0, 2, 3), phi(7, "p", 0, 10), load(8, "a"), load(9, "b")), block(jump(1), load(10, "b"), store(11, "a", 9), store(12, "b", 8)), block(giveBack(8))),
			fn(2, block(jump(1)), block(branch(0, 2, 3), phi(2, "p", 0, 3), phi(3, "b5", 0, 4), phi(4, "a6", 1, 3)), block(jump(1)), block(giveBack(4))), 0},
		// Both ways of a try, and a phi that is not needed.
		{fn(2, block(try(named(Call, 9, "m", 0), 1, 2), store(5, "x", 1)), block(jump(3), store(6, "x", 9), store(7, "y", 0)), block(jump(3), store(8, "y", 1)), block(giveBack(10), load(10, "x"))),
			fn(2, block(try(named(Call, 2, "m", 0), 1, 2)), block(jump(3)), block(jump(3)), block(giveBack(3), phi(3, "x5", 2, 1))), 0},
		// Both edges of one branch.
		{fn(2, block(branch(0, 1, 1), store(5, "x", 1)), block(branch(0, 1, 2), load(6, "x"), store(7, "x", 0)), block(giveBack(6))),
			fn(2, block(branch(0, 1, 1)), block(branch(0, 1, 2), phi(2, "x5", 1, 1, 0)), block(giveBack(2))), 0},
		{right(), Func{}, 0},
	} {
		got, e := Promote(c.f)
		if e != c.e {
			t.Errorf("%d: error %d", i, e)
			continue
		}
		if len(c.want.Blocks) > 0 && text(t, got) != text(t, c.want) {
			t.Errorf("%d:\n%s\nnot\n%s", i, text(t, got), text(t, c.want))
		}
		if fault, e := CheckFunc(got); c.e == api.OK && e != api.OK {
			t.Errorf("%d: not right: %d at %v", i, e, fault)
		}
	}
}

// TestManyPhis: a function that would have too many instructions is none.
func TestManyPhis(t *testing.T) {
	f := fn(1, block(jump(1)))
	next := 1
	var names []string
	for i := range 30 {
		names = append(names, "v"+numbersText([]int{i}))
	}
	add := func(op func(name string) Ins) []Ins {
		var l []Ins
		for _, n := range names {
			l = append(l, op(n))
			next++
		}
		return l
	}
	f.Blocks[0].Ins = add(func(n string) Ins { return store(next, n, 0) })
	for i := range 199 {
		b := 1 + i
		f.Blocks = append(f.Blocks, block(branch(0, b, b+1)))
	}
	f.Blocks[199].Ins = append(f.Blocks[199].Ins, add(func(n string) Ins { return load(next, n) })...)
	f.Blocks[100].Ins = append(f.Blocks[100].Ins, add(func(n string) Ins { return store(next, n, 0) })...)
	f.Blocks[199].End = branch(0, 1, 200)
	f.Blocks = append(f.Blocks, block(giveBack(0)))
	if _, e := CheckFunc(f); e != api.OK {
		t.Fatalf("error %d", e)
	}
	if g, e := Promote(f); e != api.OK {
		t.Errorf("error %d, %d blocks", e, len(g.Blocks))
	}
	for i := 1; i < 199; i++ { // a store in each block, of all variables
		f.Blocks[i].Ins = nil
		for _, n := range names[:19] {
			f.Blocks[i].Ins = append(f.Blocks[i].Ins, store(next, n, 0))
			next++
		}
	}
	f.Blocks = append(f.Blocks[:200], block(branch(0, 201, 202)), block(jump(1)), block(giveBack(0)))
	if _, e := CheckFunc(f); e != api.OK {
		t.Fatalf("error %d", e)
	}
	if _, e := Promote(f); e != api.OK && e != api.ErrSize {
		t.Errorf("error %d", e)
	}
}

// TestVariables checks P19.6.
func TestVariables(t *testing.T) {
	refused, phis := 0, 0
	for seed, f := range chances(600, true) {
		pick := sample.Source(uint64(seed) + 5000)
		g, e := Promote(f)
		if e == ErrUse {
			refused++
			continue
		}
		if e != api.OK {
			t.Fatalf("seed %d: error %d", seed, e)
		}
		if fault, e := CheckFunc(g); e != api.OK {
			t.Fatalf("seed %d: not right: %d at %v", seed, e, fault)
		}
		for _, b := range g.Blocks {
			for _, x := range b.Ins {
				if x.Op == Load || x.Op == Store {
					t.Fatalf("seed %d: %v", seed, x)
				}
				if x.Op == Phi {
					phis++
				}
			}
		}
		clean, _ := Clean(g)
		if again, e := Promote(g); e != api.OK || text(t, again) != text(t, clean) {
			t.Errorf("seed %d: twice", seed)
		}
		for range 4 {
			args := []int{pick(4), pick(4), pick(4), pick(4)}[:len(f.Params)]
			a, b := flows.Play(Program{}, f, args), flows.Play(Program{}, g, args)
			if !slices.Equal(a, b) {
				t.Fatalf("seed %d: with %v:\n%q\n%q\n%s\n%s", seed, args, a, b, text(t, f), text(t, g))
			}
		}
	}
	if refused == 0 || refused > 400 || phis < 500 {
		t.Errorf("%d refused, %d phis", refused, phis)
	}
	for seed, f := range chances(100, false) {
		clean, _ := Clean(f)
		if g, e := Promote(f); e != api.OK || text(t, g) != text(t, clean) {
			t.Errorf("seed %d: without variables: error %d", seed, e)
		}
	}
}
