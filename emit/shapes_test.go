package emit_test

import (
	"slices"
	"strings"
	"testing"

	"hackamore/api"
	"hackamore/code"
	. "hackamore/emit"
	"hackamore/num"
	"hackamore/ssa"
)

// TestShapes: what is known of values.
func TestShapes(t *testing.T) {
	some := named("U8")
	is := func(result int) ssa.Ins { return ins(ssa.Is, result, "", 0, 0) }
	kind := func(k int) Shape { return Shape{Kind: k} }
	both := func(l ...Shape) Shape { return Shape{Kids: l} }
	odd := api.Value{Kind: api.ValBool, Lo: 7}
	for i, c := range []struct {
		f    ssa.Func
		p    ssa.Program
		want []Shape
	}{
		{fn("f", 2, block(back(0))), ssa.Program{}, make([]Shape, 2)}, {fn("f", 0, block(ssa.End{Kind: ssa.Stuck})), ssa.Program{}, nil},
		{fn("f", 1, block(back(0), constant(3, u8(1)), constant(2, truth(true)), constant(5, api.Value{Kind: api.ValUnit, Name: "None"}), constant(6, odd), constant(7, api.Value{}), constant(8, api.Value{Kind: byteKind, Lo: 256}))), ssa.Program{}, []Shape{{}, {}, kind(1), kind(byteKind), {}, {}, {}, {}, {}}},
		{fn("f", 1, block(back(0), is(1), fits(2, 0, some), tuple(3, 0, 1, 2), item(4, 3, 0), item(5, 3, 2), item(6, 3, 3), item(7, 0, 0), tuple(8, 3, 5), item(9, 8, 0), item(10, 9, 1))), ssa.Program{}, []Shape{{}, kind(1), kind(1), both(Shape{}, kind(1), kind(1)), {}, kind(1), {}, {}, both(both(Shape{}, kind(1), kind(1)), kind(1)), both(Shape{}, kind(1), kind(1)), kind(1)}},
		{fn("f", 1, block(back(0), constant(1, u8(1)), ins(ssa.Call, 2, "add", 1, 1), ins(ssa.Call, 3, "lt", 2, 1), ins(ssa.Call, 4, "neg", 1), ins(ssa.Call, 5, "add", 1, 0), ins(ssa.Call, 6, "add", 0, 1), ins(ssa.Call, 7, "add", 1, 3), ins(ssa.Native, 8, "x.y.add", 1, 1), ins(ssa.Native, 9, "add", 1, 1), ins(ssa.Native, 10, "op_and", 3, 3), ins(ssa.Call, 11, "add_partial", 1, 1), ins(ssa.Direct, 12, "U8.add", 1, 1), ins(ssa.Native, 13, "U8.add", 1), ins(ssa.Call, 14, "add", 1, 1, 1))), ssa.Program{}, []Shape{{}, kind(byteKind), kind(byteKind), kind(1), {}, {}, {}, {}, kind(byteKind), kind(byteKind), kind(1), {}, {}, {}, {}}},
		{fn("f", 0, block(back(1), constant(0, u8(1)), ins(ssa.Call, 1, "add", 0, 0), ins(ssa.Native, 2, "U8.add", 0, 0), ins(ssa.Call, 3, "sub", 0, 0))), program(ssa.Func{Name: "U8.add"}), []Shape{kind(byteKind), {}, {}, kind(byteKind)}},
		{fn("f", 0, block(try(ins(ssa.Call, 9, "add", 0, 0), 1, 2), constant(0, u8(1))), block(back(9)), block(back(0))), ssa.Program{}, []Shape{kind(byteKind), {}, {}, {}, {}, {}, {}, {}, {}, kind(byteKind)}},
		{fn("f", 1, block(branch(0, 1, 2), constant(1, u8(1)), constant(2, truth(false)), tuple(3, 1, 1)), block(jump(3)), block(jump(3)), block(back(4), phi(4, 1, 1), phi(5, 1, 2), phi(6, 1, 0), phi(7, 3, 3), phi(8, 3, 3), item(9, 7, 0))), ssa.Program{}, []Shape{{}, kind(byteKind), kind(1), both(kind(byteKind), kind(byteKind)), kind(byteKind), {}, {}, {}, {}, {}}},
		{fn("f", 0, block(jump(1), constant(0, u8(1)), constant(1, truth(true))), block(branch(1, 1, 2), phi(2, 0, 4), phi(3, 0, 3), ins(ssa.Call, 4, "add", 2, 3), ins(ssa.Call, 5, "lt", 4, 0)), block(back(6), ins(ssa.Call, 6, "lt", 2, 0))), ssa.Program{}, []Shape{kind(byteKind), kind(1), kind(byteKind), kind(byteKind), kind(byteKind), kind(1), kind(1)}},
		{fn("f", 0, block(jump(1), constant(0, u8(1)), constant(1, truth(true))), block(branch(1, 1, 2), phi(2, 0, 3), ins(ssa.Call, 3, "lt", 2, 2)), block(back(3))), ssa.Program{}, []Shape{kind(byteKind), kind(1), {}, {}}},
	} {
		got, e := Shapes(c.p, c.f)
		if e != api.OK || !slices.EqualFunc(got, c.want, equal) {
			t.Errorf("%d: %v, not %v, error %d", i, got, c.want, e)
		}
	}
}

// TestShapesChance compares shapes with those that are found by other means.
func TestShapesChance(t *testing.T) {
	kinds, tuples, phis := 0, 0, 0
	for seed := range 1500 {
		p := chance(seed)
		for _, f := range p.Funcs {
			want := shapesOf(p, f)
			got, e := Shapes(p, f)
			size := 0
			for _, s := range want {
				size = max(size, len(classes(s.done())))
			}
			if size > 64 {
				if e != api.ErrSize || got != nil {
					t.Errorf("seed %d: %d registers, error %d", seed, size, e)
				}
				continue
			}
			if e != api.OK || len(got) != len(want) {
				t.Fatalf("seed %d: %d shapes, error %d", seed, len(got), e)
			}
			for v, s := range want {
				if !equal(s.done(), got[v]) || !slices.Equal(Classes(got[v]), classes(got[v])) {
					t.Fatalf("seed %d: the value %d: %v, not %v", seed, v, got[v], s)
				}
				if s.kind != 0 {
					kinds++
				}
				if s.kids != nil {
					tuples++
				}
			}
			for _, b := range f.Blocks {
				for _, x := range b.Ins {
					if x.Op == ssa.Phi && got[x.Result].Kind != 0 {
						phis++
					}
				}
			}
		}
	}
	if kinds < 5000 || tuples < 1000 || phis < 100 {
		t.Errorf("%d kinds, %d tuples, %d phis", kinds, tuples, phis)
	}
}

// TestSizes: shapes that need many registers.
func TestSizes(t *testing.T) {
	double := func(n int) ssa.Func {
		f := fn("f", 1, block(back(0)))
		for i := range n {
			f.Blocks[0].Ins = append(f.Blocks[0].Ins, tuple(i+1, i, i))
		}
		return f
	}
	over := double(6)
	over.Blocks[0].Ins = append(over.Blocks[0].Ins, tuple(7, 6, 0))
	if l, e := Shapes(ssa.Program{}, double(6)); e != api.OK || len(Classes(l[6])) != 64 {
		t.Errorf("error %d", e)
	}
	for i, f := range []ssa.Func{over, double(7), double(3000)} {
		l, e := Shapes(ssa.Program{}, f)
		h, e2 := Assign(ssa.Program{}, f)
		c, e3 := Emit(program(f))
		if e != api.ErrSize || e2 != e || e3 != e || CheckHomes(ssa.Program{}, f, Homes{}) != e || l != nil || h.Values != nil || !code.Equal(c, code.Program{}) {
			t.Errorf("%d: errors %d, %d, %d", i, e, e2, e3)
		}
	}
}

// TestFuncErrors: the error of a function.
func TestFuncErrors(t *testing.T) {
	for i, c := range []struct {
		f ssa.Func
		e api.Errno
	}{
		{ssa.Func{}, api.ErrSize}, {fn("\xff", 0, block(back(0))), api.ErrForm}, {fn("f", 0, block(back(0))), ssa.ErrUse}, {fn("f", 1, block(back(0), ins(ssa.Store, 1, "x", 0))), ErrVar}, {fn("f", 1, block(back(0), ins(ssa.Store, 1, "x", 0), ins(ssa.Load, 2, "x"))), ErrVar}, {fn("f", 1, block(back(9), ins(ssa.Load, 2, "x"))), ssa.ErrUse}, {fn("f", 1, block(back(0), ins(ssa.Load, 2, "x"), tuple(3, 0, 0), tuple(4, 3, 3), tuple(5, 4, 4), tuple(6, 5, 5), tuple(7, 6, 6), tuple(8, 7, 7), tuple(9, 8, 8))), ErrVar},
	} {
		l, e := Shapes(ssa.Program{}, c.f)
		h, e2 := Assign(ssa.Program{}, c.f)
		_, e3 := Emit(program(c.f))
		if e != c.e || e2 != c.e || e3 != c.e || CheckHomes(ssa.Program{}, c.f, Homes{Classes: make([]int, 300)}) != c.e || l != nil || h.Values != nil || h.Classes != nil {
			t.Errorf("%d: errors %d, %d, %d, not %d", i, e, e2, e3, c.e)
		}
	}
}

func TestClasses(t *testing.T) {
	for i, c := range []struct {
		s    Shape
		want []int
	}{
		{Shape{}, []int{code.Any}}, {Shape{Kind: 1}, []int{code.Num}}, {Shape{Kind: 10}, []int{code.Num}}, {Shape{Kind: 23}, []int{code.Num}}, {Shape{Kids: []Shape{{}, {Kind: 16}}}, []int{code.Any, code.Num}}, {Shape{Kids: []Shape{{Kind: 1}, {Kids: []Shape{{Kind: 23}, {}, {}}}, {Kind: 12}}}, []int{1, 1, 2, 2, 1}},
	} {
		if got := Classes(c.s); !slices.Equal(got, c.want) {
			t.Errorf("%d: %v, not %v", i, got, c.want)
		}
	}
	deep := Shape{Kind: 1}
	for range 60000 {
		deep = Shape{Kids: []Shape{{}, deep}}
	}
	if l := Classes(deep); len(l) != 60001 || l[0] != code.Any || l[60000] != code.Num {
		t.Errorf("%d classes", len(l))
	}
}

// TestArith asks for all methods of all kinds.
func TestArith(t *testing.T) {
	own := program(ssa.Func{Name: "U8.add"}, ssa.Func{Name: "Bool.eq"}, ssa.Func{Name: "lt"})
	found := 0
	for kind := -2; kind < 40; kind++ {
		name, _ := num.Name(kind)
		if kind == api.ValBool {
			name = "Bool"
		}
		l, _ := num.Methods(name)
		methods := []string{"", "nope", "add", "eq", "U8.add"}
		for _, s := range l {
			methods = append(methods, s.Name)
		}
		for _, m := range methods {
			for _, other := range []int{kind, 0, 1, byteKind, wordKind, 2, 99} {
				for _, p := range []ssa.Program{{}, own} {
					name, result, ok := Arith(p, kind, m, other)
					n2, r2, ok2 := arith(p, kind, m, other)
					if name != n2 || result != r2 || ok != ok2 {
						t.Errorf("%d %s %d: %s %d %v, not %s %d %v", kind, m, other, name, result, ok, n2, r2, ok2)
					}
					if ok {
						found++
					}
				}
			}
		}
	}
	if found < 100 {
		t.Errorf("%d found", found)
	}
	if name, result, ok := Arith(ssa.Program{}, wordKind, "lt", wordKind); name != "U32.lt" || result != api.ValBool || !ok {
		t.Errorf("%s %d %v", name, result, ok)
	}
	if _, _, ok := Arith(ssa.Program{}, wordKind, strings.Repeat("x", 1000), wordKind); ok {
		t.Error("a long name")
	}
}
