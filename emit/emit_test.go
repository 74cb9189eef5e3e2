package emit_test

import (
	"slices"
	"strconv"
	"strings"
	"testing"

	"hackamore/api"
	"hackamore/code"
	"hackamore/colour"
	. "hackamore/emit"
	"hackamore/ssa"
	"hackamore/types"
	"hackamore/verify"
)

func TestExamples(t *testing.T) {
	c, e := Emit(program(fn("f", 1, block(back(0)))))
	if e != api.OK || !slices.Equal(c.Functions[0].Words, []uint32{0x00000014}) {
		t.Errorf("%v, error %d", c, e)
	}
	five := api.Value{Kind: wordKind, Lo: 5}
	c, e = Emit(program(fn("f", 0, block(back(1), constant(0, five), ins(ssa.Call, 1, "add", 0, 0)))))
	l, _, _ := code.All(c.Functions[0].Words)
	n := slices.IndexFunc(l, func(i code.Ins) bool { return i.Op == code.Arith })
	if e != api.OK || n < 0 || c.Texts[l[n].Index[0]] != "U32.add" || slices.ContainsFunc(l, func(i code.Ins) bool { return i.Op == code.Call || i.Op == code.Native }) {
		t.Fatalf("%v, error %d", l, e)
	}
	for _, r := range []int{l[n].A, l[n].B, l[n].C} {
		if c.Functions[0].Classes[r] != code.Num {
			t.Errorf("%v", l)
		}
	}
}

// registers returns how many registers all shapes of a function need, how many Args it has, and the most that one instruction has.
func registers(p ssa.Program, f ssa.Func) (registers, args, most int) {
	shapes, _ := Shapes(p, f)
	for v, isMade := range made(f, len(shapes)) {
		if isMade {
			registers += len(Classes(shapes[v]))
		}
	}
	note := func(l []int) {
		args, most = args+len(l), max(most, len(l))
	}
	for _, b := range f.Blocks {
		for _, x := range b.Ins {
			note(x.Args)
		}
		note(b.End.Args)
		note(b.End.Call.Args)
	}
	return registers, args, most
}

// compare compares code with the program that it is made of, as far as it is specified.
func compare(t *testing.T, p ssa.Program, c code.Program) {
	t.Helper()
	if fault, e := verify.Check(c); e != api.OK {
		t.Fatalf("%v, error %d", fault, e)
	}
	if len(c.Functions) != len(p.Funcs) {
		t.Fatalf("%d functions", len(c.Functions))
	}
	functions := map[string]int{}
	var named, called []string
	for i, f := range p.Funcs {
		functions[f.Name] = i
		if c.Functions[i].Name != f.Name || c.Functions[i].Params != len(f.Params) {
			t.Errorf("%v", c.Functions[i])
		}
		for _, b := range f.Blocks {
			for _, x := range append(slices.Clone(b.Ins), b.End.Call) {
				switch x.Op {
				case ssa.Make:
					named = append(named, x.Text)
				case ssa.Spawn:
					named = append(named, x.Name)
				case ssa.Call:
					called = append(called, x.Text)
				}
			}
		}
	}
	for i, x := range p.Entities {
		if c.Entities[i] != x.Name {
			t.Errorf("the entity %d is %s, not %s", i, c.Entities[i], x.Name)
		}
	}
	for _, name := range c.Entities[len(p.Entities):] {
		if !slices.Contains(named, name) {
			t.Errorf("nothing names %s", name)
		}
	}
	for _, name := range named {
		if !slices.Contains(c.Entities, name) {
			t.Errorf("no entity %s", name)
		}
	}
	for _, s := range c.Selectors {
		if !slices.Contains(called, s) {
			t.Errorf("nothing calls %s", s)
		}
	}
	for i, name := range c.Entities {
		for s, selector := range c.Selectors {
			want, ok := functions[name+"."+selector]
			if !ok {
				want = -1
			}
			if got := colour.Lookup(c.Vector, c.Offsets, c.Colours, i, s); got != want {
				t.Errorf("%s of %s: %d, not %d", selector, name, got, want)
			}
		}
	}
}

// TestChance checks P25.4 with programs by chance.
func TestChance(t *testing.T) {
	small := 0
	for seed := range 1500 {
		p := chance(seed)
		c, e := Emit(p)
		isSmall, want := true, api.OK
		for _, f := range p.Funcs {
			if _, e := Shapes(p, f); want == api.OK {
				want = e
			}
			n, args, most := registers(p, f)
			isSmall = isSmall && n <= 100 && args <= 100 && most <= 60 && len(f.Blocks) <= 20
		}
		if isSmall && want == api.OK {
			small++
		}
		if e != want && (isSmall || e != api.ErrLarge) {
			t.Fatalf("seed %d: error %d, not %d", seed, e, want)
		}
		if e == api.OK {
			compare(t, p, c)
			again, _ := Emit(p)
			if !code.Equal(c, again) {
				t.Errorf("seed %d: other code", seed)
			}
		} else if !code.Equal(c, code.Program{}) {
			t.Errorf("seed %d: code with an error", seed)
		}
	}
	if small < 400 {
		t.Errorf("%d small programs", small)
	}
}

func entities(l ...string) []api.Entity {
	var out []api.Entity
	for _, name := range l {
		out = append(out, api.Entity{Kind: api.Class, Name: name})
	}
	return out
}

// numbered returns texts of some bytes that are all different.
func numbered(n, bytes int, first string) []string {
	var l []string
	for i := range n {
		s := first + strconv.Itoa(i)
		l = append(l, s+strings.Repeat("x", max(0, bytes-len(s))))
	}
	return l
}

// TestTables: entities, selectors, and the functions that are found by them.
func TestTables(t *testing.T) {
	calls := func(name string, l ...string) ssa.Func {
		f := fn(name, 1, block(back(0)))
		for i, s := range l {
			f.Blocks[0].Ins = append(f.Blocks[0].Ins, ins(ssa.Call, i+1, s, 0))
		}
		return f
	}
	spawn := ssa.Ins{Op: ssa.Spawn, Result: 2, Name: "Z", Text: "create"}
	for i, p := range []ssa.Program{
		{}, {Entities: entities("B", "A", "B")}, {Entities: entities("B", "A", "B"), Funcs: []ssa.Func{calls("B.m", "m", "k", "a"), calls("A.k", "k"), calls("A.z")}},
		{Entities: entities("a", "a.b", ""), Funcs: []ssa.Func{calls("a.b.c", "b.c", "c", "d"), calls("a.d"), calls(".d")}},
		{Entities: entities("A"), Funcs: []ssa.Func{fn("f", 0, block(back(3), ins(ssa.Make, 0, "Array[U8 val]"), ins(ssa.Make, 1, "A"), spawn, ins(ssa.Call, 3, "m", 0))), calls("Z.m"), calls("Array[U8 val].m"), calls("Y.m")}},
		{Entities: entities(numbered(200, 0, "E")...), Funcs: []ssa.Func{fn("f", 0, block(back(0), ins(ssa.Make, 0, "Q"), ins(ssa.Make, 1, "R"), ins(ssa.Call, 2, "m", 0))), calls("E7.m")}},
		{Entities: entities("A"), Funcs: []ssa.Func{calls("A.zz", append(numbered(600, 0, "s"), "zz")...)}},
		{Entities: entities("A"), Funcs: []ssa.Func{fn("f", 1, block(try(ins(ssa.Call, 1, "m", 0), 1, 2)), block(back(1)), block(back(0))), calls("A.m")}},
	} {
		c, e := Emit(p)
		if e != api.OK {
			t.Fatalf("%d: error %d", i, e)
		}
		compare(t, p, c)
	}
}

// TestEmitErrors: errors, and their order.
func TestEmitErrors(t *testing.T) {
	bad, wide := api.Type{Kind: 9}, api.Type{Kind: api.TypeUnion, Args: make([]api.Type, 301)}
	variable := fn("v", 1, block(back(0), ins(ssa.Store, 1, "x", 0)))
	asks := func(name string, l ...api.Type) ssa.Func {
		f := fn(name, 1, block(back(0)))
		for i, x := range l {
			f.Blocks[0].Ins = append(f.Blocks[0].Ins, fits(i+1, 0, x))
		}
		return f
	}
	lone := fn("f", 0, block(back(0), ssa.Ins{Op: ssa.Native, Text: "x"}))
	pair := constant(0, api.Value{Kind: api.ValTuple, Kids: []api.Value{u8(1), u8(2)}})
	args := slices.Repeat([]int{0}, 61)
	calls := func(name string, l ...string) ssa.Func {
		f := fn(name, 1, block(back(0)))
		for i, s := range l {
			f.Blocks[0].Ins = append(f.Blocks[0].Ins, ins(ssa.Call, i+1, s, 0))
		}
		return f
	}
	makes := func(l []string) ssa.Func {
		f := fn("f", 1, block(back(0)))
		for i, s := range l {
			f.Blocks[0].Ins = append(f.Blocks[0].Ins, ins(ssa.Make, i+1, s))
		}
		return f
	}
	understood := ssa.Program{Entities: entities("A")}
	for _, s := range numbered(101, 0, "s") {
		understood.Funcs = append(understood.Funcs, calls("A."+s, s))
	}
	for i, c := range []struct {
		p ssa.Program
		e api.Errno
	}{
		{program(asks("f", named("U8"), bad)), api.ErrForm}, {program(fn("f", 1, block(jump(1), tuple(1, 0, 0)), block(back(0), tuple(2, 0, 0), fits(3, 0, bad)))), api.ErrForm}, {program(asks("f", wide, bad)), api.ErrSize}, {program(asks("f", bad), variable), api.ErrForm}, {program(variable, asks("f", bad)), ErrVar}, {program(asks("f", bad), fn("f", 0, block(back(0)))), ssa.ErrUse}, {program(variable, variable), api.ErrTwice}, {program(calls("f", "x"), calls("g"), fn("h", 0, block(back(0), ins(ssa.Direct, 0, "nope")))), api.ErrNone},
		{program(lone), api.ErrLarge}, {program(lone, variable), ErrVar}, {program(fn("f", 0, block(back(0), pair))), api.ErrLarge}, {program(fn("f", 0, block(back(0), constant(1, api.Value{Kind: api.ValTuple}), pair))), api.ErrLarge}, {program(fn("f", 0, block(back(0), constant(0, api.Value{Kind: api.ValTuple})))), api.OK}, {program(fn("f", 0, block(back(0), constant(0, api.Value{Kind: 4, Name: strings.Repeat("x", 300)})))), api.OK}, {program(fn("f", 0, block(back(0), constant(0, api.Value{Kind: 4, Name: strings.Repeat("x", 301)})))), api.ErrLarge},
		{program(fn("f", 1, block(back(1), ins(ssa.Call, 1, "m", args...)))), api.ErrLarge}, {program(fn("f", 1, block(back(1), ins(ssa.Call, 1, "m", args[1:]...)))), api.OK}, {program(fn("f", 1, block(back(1), tuple(1, args...)))), api.ErrLarge}, {program(fn("f", 1, block(back(2), tuple(1, args...), item(2, 1, 60)))), api.OK},
		{program(makes(numbered(3000, 0, "E"))), api.OK}, {ssa.Program{Entities: []api.Entity{{Name: strings.Repeat("x", 20000)}}}, api.OK}, {ssa.Program{Entities: []api.Entity{{Name: strings.Repeat("x", 20001)}}}, api.ErrLarge}, {understood, api.ErrLarge}, {ssa.Program{Entities: understood.Entities, Funcs: understood.Funcs[1:]}, api.OK}, {ssa.Program{Entities: make([]api.Entity, 201)}, api.ErrSize},
	} {
		got, e := Emit(c.p)
		if e != c.e || e != api.OK && !code.Equal(got, code.Program{}) {
			t.Errorf("%d: error %d, not %d", i, e, c.e)
		}
		if e == api.OK {
			compare(t, c.p, got)
		}
	}
	for n, want := range map[int]api.Errno{1176: api.OK, 1177: api.ErrLarge} { // calls of 17 words each, and a return
		f := fn("f", 1, block(back(0)))
		for i := range n {
			f.Blocks[0].Ins = append(f.Blocks[0].Ins, ins(ssa.Call, i+1, "m", args[1:]...))
		}
		if c, e := Emit(program(f)); e != want || e == api.OK && len(c.Functions[0].Words) != 17*n+1 {
			t.Errorf("%d calls: error %d", n, e)
		}
	}
}

// TestMany: what comes one after the other shares registers; and what would become much too large is left early.
func TestMany(t *testing.T) {
	calls := fn("f", 0, block(back(0), constant(0, u8(1)), tuple(1, 0, 0, 0)))
	for v := 2; v < 302; v++ {
		calls.Blocks[0].Ins = append(calls.Blocks[0].Ins, ins(ssa.Call, v, "m", 0, 1, 0))
	}
	ends := fn("f", 0, block(jump(1), constant(0, u8(1)), constant(1, truth(true))))
	for b := 1; b < 399; b += 2 { // to one that returns, or on
		ends.Blocks = append(ends.Blocks, block(branch(1, b+1, b+2)), block(back(0)))
	}
	ends.Blocks = append(ends.Blocks, block(back(0)))
	for i, f := range []ssa.Func{calls, ends} {
		c, e := Emit(program(f))
		if e != api.OK || len(c.Functions[0].Classes) > 20 {
			t.Fatalf("%d: error %d, %d registers", i, e, len(c.Functions[0].Classes))
		}
		compare(t, program(f), c)
	}
	l, _, _ := code.All(emitted(t, ends).Words)
	far := 0
	for _, i := range l { // the conditions hold: each branch leads to a return of a box
		if to := i.B + 256*i.C; i.Op == code.Branch {
			n := slices.IndexFunc(l, func(x code.Ins) bool { return x.At == to })
			if n < 0 || l[n].Op != code.Box || l[n+1].Op != code.Return {
				t.Fatalf("%v", i)
			}
			if to > 255 {
				far++
			}
		}
	}
	if far < 50 {
		t.Errorf("%d far branches", far)
	}
	large := fn("f", 0, block(back(0), constant(0, u8(1)), tuple(1, slices.Repeat([]int{0}, 60)...)))
	for v := 2; v < 3998; v++ {
		large.Blocks[0].Ins = append(large.Blocks[0].Ins, ins(ssa.Call, v, "m", slices.Repeat([]int{1}, 60)...))
	}
	if _, e := Emit(program(large)); e != api.ErrLarge {
		t.Errorf("error %d", e)
	}
}

// emitted returns the code of a function.
func emitted(t *testing.T, f ssa.Func) code.Function {
	t.Helper()
	c, e := Emit(program(f))
	if e != api.OK {
		t.Fatalf("error %d", e)
	}
	return c.Functions[0]
}

// TestNeverLarge: programs that are just as large as they may be.
func TestNeverLarge(t *testing.T) {
	names := numbered(110, 200, "E")
	p := ssa.Program{Entities: entities(names...)}
	selectors := numbered(400, 200, "s")
	texts := numbered(8000, 200, "t")
	next := 0
	text := func() string {
		next++
		return texts[next-1]
	}
	for n := range 40 {
		f := fn("F."+strconv.Itoa(n), 1, block(back(0)))
		b := &f.Blocks[0]
		for i := range 99 { // 100 values, 100 Args
			switch {
			case i < 10:
				b.Ins = append(b.Ins, ins(ssa.Call, i+1, selectors[10*n+i], 0))
			case n == 0 && i < 50:
				b.Ins = append(b.Ins, ins(ssa.Make, i+1, "other"+strconv.Itoa(i)))
			default:
				b.Ins = append(b.Ins, ins(ssa.Get, i+1, text(), 0))
			}
		}
		p.Funcs = append(p.Funcs, f)
	}
	sixty := fn("G.0", 1, block(back(0), constant(1, u8(1)), tuple(2, slices.Repeat([]int{1}, 60)...)))
	for v := 3; v < 40; v++ { // 37 calls with the tuple
		sixty.Blocks[0].Ins = append(sixty.Blocks[0].Ins, ins(ssa.Call, v, selectors[0], 2))
	}
	deep := fn("G.1", 0, block(back(7), constant(0, u8(1)), constant(1, truth(true))))
	for v := range 5 { // pairs of pairs: 32 numbers
		deep.Blocks[0].Ins = append(deep.Blocks[0].Ins, tuple(v+2, max(v+1, 0)*min(v, 1), max(v+1, 0)*min(v, 1)))
	}
	deep.Blocks[0].Ins = append(deep.Blocks[0].Ins, ins(ssa.Call, 7, selectors[0], slices.Repeat([]int{6}, 60)...), ins(ssa.Call, 8, selectors[0], slices.Repeat([]int{6}, 29)...))
	phis := fn("G.2", 1, block(branch(1, 1, 2), constant(1, truth(true)), tuple(2, 1, 1, 1, 1, 1, 1, 1, 1)), block(jump(3)), block(jump(3)), block(back(4)))
	for v := 4; v < 44; v++ { // 40 phis: tuples, or parameters
		phis.Blocks[3].Ins = append(phis.Blocks[3].Ins, phi(v, 2, 0))
	}
	phis.Blocks[3].Ins = append(phis.Blocks[3].Ins, ins(ssa.Call, 44, selectors[0], 4, 5, 6, 7, 8))
	for i, f := range []ssa.Func{sixty, deep, phis} {
		q := ssa.Program{Entities: p.Entities, Funcs: []ssa.Func{f}}
		n, args, most := registers(q, f)
		if n > 100 || args > 100 || most > 60 {
			t.Fatalf("%d: %d registers, %d Args, %d of one", i, n, args, most)
		}
		c, e := Emit(q)
		if e != api.OK {
			t.Fatalf("%d: error %d", i, e)
		}
		compare(t, q, c)
	}
	c, e := Emit(p)
	if e != api.OK || len(c.Texts) < 3500 || len(c.Selectors) != 400 || len(c.Entities) != 150 {
		t.Fatalf("%d texts, %d selectors, %d entities, error %d", len(c.Texts), len(c.Selectors), len(c.Entities), e)
	}
	compare(t, p, c)
}

// operations returns those of the code of a function.
func operations(c code.Program) []int {
	var out []int
	l, _, _ := code.All(c.Functions[0].Words)
	for _, i := range l {
		out = append(out, i.Op)
	}
	return out
}

// TestCode: how instructions and ends are made; what is known is neither boxed nor put together.
func TestCode(t *testing.T) {
	one := constant(1, u8(1))
	raising := fn("f", 1, block(ssa.End{Kind: ssa.Error}))
	raising.Partial = true
	stack := ins(ssa.Make, 1, "E")
	stack.Flag = true
	for i, c := range []struct {
		f    ssa.Func
		want []int
	}{
		{fn("f", 1, block(ssa.End{Kind: ssa.Error})), []int{code.Stuck}}, {raising, []int{code.Raise}}, {fn("f", 1, block(ssa.End{Kind: ssa.Stuck})), []int{code.Stuck}}, {fn("f", 1, block(back(1), one)), []int{code.Const, code.Box, code.Return}}, {fn("f", 1, block(back(0), one)), []int{code.Return}},
		{fn("f", 1, block(back(1), stack)), []int{code.Stack, code.Return}}, {fn("f", 1, block(back(1), ins(ssa.Make, 1, "E"))), []int{code.Make, code.Return}}, {fn("f", 1, block(back(1), ins(ssa.Text, 1, ""))), []int{code.Text, code.Return}}, {fn("f", 1, block(back(0), ins(ssa.Send, 1, "go", 0))), []int{code.Send, code.Return}}, {fn("f", 1, block(back(1), ins(ssa.Send, 1, "go", 0))), []int{code.Send, code.Const, code.Return}}, {fn("f", 1, block(back(1), ins(ssa.Set, 1, "x", 0, 0))), []int{code.Set, code.Return}},
		{fn("f", 1, block(back(3), one, tuple(2, 0, 1), item(3, 2, 0))), []int{code.Const, code.Return}}, {fn("f", 1, block(back(1), item(1, 0, 2))), []int{code.Item, code.Return}}, {fn("f", 1, block(back(2), one, tuple(2, 0, 1))), []int{code.Const, code.Box, code.Tuple, code.Return}}, {fn("f", 1, block(back(3), one, tuple(2, 0, 1), item(3, 2, 9))), []int{code.Const, code.Box, code.Tuple, code.Item, code.Return}},
		{fn("f", 1, block(branch(0, 1, 2)), block(back(0)), block(back(0))), []int{code.Unbox, code.Branch, code.Jump, code.Return, code.Return}}, {fn("f", 1, block(branch(1, 2, 1), ins(ssa.Is, 1, "", 0, 0)), block(back(0)), block(back(0))), []int{code.Same, code.Branch, code.Return, code.Return}}, {fn("f", 1, block(branch(1, 2, 1), one), block(back(0)), block(back(0))), []int{code.Const, code.Box, code.Unbox, code.Branch, code.Return, code.Return}},
		{fn("f", 1, block(try(ins(ssa.Call, 1, "m", 0), 1, 2)), block(back(1)), block(back(0))), []int{code.Call, code.Return, code.Return}}, {fn("f", 1, block(try(ins(ssa.Call, 2, "add", 1, 1), 1, 2), one), block(back(2)), block(back(0))), []int{code.Const, code.Arith, code.Box, code.Return, code.Return}}, {fn("f", 1, block(back(3), one, ins(ssa.Native, 2, "U8.neg", 1), ins(ssa.Native, 3, "U8.lt", 1, 1))), []int{code.Const, code.Box, code.Native, code.Arith, code.Box, code.Return}},
		{fn("f", 0, block(jump(1), one), block(branch(4, 1, 2), phi(2, 1, 3), ins(ssa.Call, 3, "add", 2, 1), ins(ssa.Call, 4, "lt", 3, 1)), block(back(3))), []int{code.Const, code.Move, code.Arith, code.Arith, code.Branch, code.Box, code.Return}},
	} {
		got, e := Emit(program(c.f))
		if e != api.OK || !slices.Equal(operations(got), c.want) {
			t.Errorf("%d: %v, not %v, error %d", i, operations(got), c.want, e)
		}
		if l := got.Functions[0].Maps; e == api.OK && len(l) > 1 {
			t.Errorf("%d: %v", i, l)
		}
	}
	kept := program(fn("f", 2, block(back(3), ins(ssa.Text, 2, "x"), ins(ssa.Call, 3, "m", 2, 0))))
	c, e := Emit(kept)
	if e != api.OK || len(c.Functions[0].Maps) != 1 || !slices.Equal(c.Functions[0].Maps[0].Live, []int{0}) {
		t.Errorf("%v, error %d", c.Functions, e)
	}
	if q, e := verify.Maps(c); e != api.OK || !code.Equal(q, c) {
		t.Errorf("the maps are not the least ones, error %d", e)
	}
	deep := types.Named("E", api.Ref, []api.Type{named("U8")})
	c, e = Emit(program(fn("f", 1, block(back(1), fits(1, 0, deep), fits(2, 0, deep), fits(3, 0, named("E"))))))
	if e != api.OK || len(c.Types) != 2 {
		t.Errorf("%v, error %d", c.Types, e)
	}
}
