package machine_test

import (
	"testing"

	"hackamore/api"
	"hackamore/emit"
	"hackamore/lower"
	. "hackamore/machine"
	"hackamore/meaning"
	"hackamore/ssa"
)

func ssaIns(op, result int, s string, args ...int) ssa.Ins {
	return ssa.Ins{Op: op, Result: result, Text: s, Args: args}
}

func constant(result int, v api.Value) ssa.Ins { return ssa.Ins{Op: ssa.Const, Result: result, Lit: v} }

func item(result, v, n int) ssa.Ins {
	return ssa.Ins{Op: ssa.Item, Result: result, Args: []int{v}, N: n}
}

func phi(result int, args ...int) ssa.Ins { return ssaIns(ssa.Phi, result, "", args...) }

func block(end ssa.End, l ...ssa.Ins) ssa.Block { return ssa.Block{Ins: l, End: end} }

func jump(to int) ssa.End { return ssa.End{Kind: ssa.Jump, To: []int{to}} }

func branch(v, yes, no int) ssa.End {
	return ssa.End{Kind: ssa.Branch, Args: []int{v}, To: []int{yes, no}}
}

func try(call ssa.Ins, to ...int) ssa.End { return ssa.End{Kind: ssa.Try, Call: call, To: to} }

func give(v int) ssa.End { return ssa.End{Kind: ssa.Return, Args: []int{v}} }

// keeps ends a function that keeps a value in the field sum of its actor.
func keeps(v int) ssa.Block { return block(give(0), ssaIns(ssa.Set, 90000, "sum", 0, v)) }

// TestWritten compares runs of functions, in which many values change their places at once, with those of their code; each keeps something that the chapter's meaning of phis tells.
func TestWritten(t *testing.T) {
	one, three := constant(2, u8(1)), constant(3, u8(3))
	more := func(result, v int) ssa.Ins { return ssaIns(ssa.Native, result, "U8.add", v, 2) }
	add := func(result, a, b int) ssa.Ins { return ssaIns(ssa.Call, result, "add", a, b) }
	tuple := func(result int, l ...int) ssa.Ins { return ssaIns(ssa.Tuple, result, "", l...) }
	risky := func(result, a, b int) ssa.Ins { return ssaIns(ssa.Call, result, "add_partial", a, b) }
	none := constant(4, unit("None"))
	for i, c := range []struct {
		l    []ssa.Block
		want string
	}{
		{[]ssa.Block{block(jump(1), one), keeps(2)}, "U8 1"},
		// Arithmetic in a try, which leads past the next block.
		{[]ssa.Block{block(try(add(5, 3, 3), 2, 1), one, three), keeps(2), block(jump(3), phi(7, 3)), block(give(0), tuple(8, 5, 7), ssaIns(ssa.Set, 9, "sum", 0, 8))}, "(U8 6, U8 3)"},
		// A loop in which two numbers, and two objects, change their places.
		{[]ssa.Block{block(jump(1), one, three, constant(5, u8(0)), none), block(branch(20, 2, 3), phi(10, 5, 21), phi(11, 2, 12), phi(12, 3, 11), phi(13, 0, 14), phi(14, 4, 13), ssaIns(ssa.Native, 20, "U8.lt", 10, 3)), block(jump(1), more(21, 10)), block(give(0), tuple(30, 11, 12, 13, 14), ssaIns(ssa.Set, 31, "sum", 0, 30))}, "(U8 3, U8 1, None, @1)"},
		// Three in a circle, and one that is handed on twice.
		{[]ssa.Block{block(jump(1), one, three, constant(5, u8(0)), constant(6, u8(9))), block(branch(20, 1, 2), phi(10, 5, 11), phi(11, 2, 12), phi(12, 6, 10), phi(13, 6, 10), ssaIns(ssa.Native, 20, "U8.lt", 10, 3)), block(give(0), tuple(30, 10, 11, 12, 13), ssaIns(ssa.Set, 31, "sum", 0, 30))}, "(U8 9, U8 0, U8 1, U8 1)"},
		// A branch of which both ways lead to one block.
		{[]ssa.Block{block(branch(5, 1, 1), one, three, none, ssaIns(ssa.Is, 5, "", 2, 2)), block(give(0), phi(10, 2, 3), phi(11, 4, 2), phi(12, 0, 0), tuple(13, 10, 11, 12), ssaIns(ssa.Set, 14, "sum", 0, 13))}, "(U8 1, None, @1)"},
		{[]ssa.Block{block(branch(5, 1, 1), one, three, none, ssaIns(ssa.Is, 5, "", 2, 3)), block(give(0), phi(10, 2, 3), phi(11, 4, 2), phi(12, 0, 0), tuple(13, 10, 11, 12), ssaIns(ssa.Set, 14, "sum", 0, 13))}, "(U8 3, U8 1, @1)"},
		// A call that ends with an error, and one that does not; what was there ahead of it is handed on.
		{[]ssa.Block{block(try(risky(5, 3, 3), 1, 2), one, three), block(jump(3)), block(jump(3)), block(give(0), phi(10, 5, 3), phi(11, 2, 0), tuple(12, 10, 11), ssaIns(ssa.Set, 13, "sum", 0, 12))}, "(U8 6, U8 1)"},
		{[]ssa.Block{block(try(risky(5, 6, 6), 1, 2), one, three, constant(6, u8(200))), block(jump(3)), block(jump(3)), block(give(0), phi(10, 5, 3), phi(11, 2, 0), tuple(12, 10, 11), ssaIns(ssa.Set, 13, "sum", 0, 12))}, "(U8 3, @1)"},
		{[]ssa.Block{block(jump(1), one, three, constant(6, u8(100))), block(try(risky(5, 10, 3), 2, 3), phi(10, 6, 5)), block(jump(1), phi(11, 10)), block(give(0), phi(12, 10), ssaIns(ssa.Set, 13, "sum", 0, 12))}, "U8 253"},
		{[]ssa.Block{block(jump(1), one, three, constant(6, u8(100))), block(try(risky(5, 10, 10), 2, 3), phi(10, 6, 5)), block(jump(1), phi(11, 10)), block(give(0), phi(12, 10), ssaIns(ssa.Set, 13, "sum", 0, 12))}, "U8 200"},
		// Parts of tuples, moved among registers that they share.
		{[]ssa.Block{block(jump(1), one, three, tuple(10, 2, 3, 0), tuple(11, 3, 10, 2), item(12, 11, 1), item(13, 12, 2), item(14, 12, 1), tuple(15, 14, 13, 12), item(16, 15, 2), tuple(17, 16, 14)), keeps(17)}, "((U8 1, U8 3, @1), U8 3)"},
		{[]ssa.Block{block(branch(20, 1, 2), one, three, tuple(10, 2, 3), tuple(11, 3, 10), ssaIns(ssa.Is, 20, "", 10, 10)), block(jump(2)), block(give(0), phi(12, 10, 11), phi(13, 11, 10), tuple(14, 12, 13), ssaIns(ssa.Set, 15, "sum", 0, 14))}, "((U8 3, (U8 1, U8 3)), (U8 1, U8 3))"},
		// More constants, and more words, than a byte can tell.
		{[]ssa.Block{block(jump(2)), block(give(609), append(sumOf(300), ssaIns(ssa.Set, 700, "sum", 0, 609))...), block(jump(1))}, "U32 44850"},
	} {
		f := ssa.Program{Funcs: []ssa.Func{{Name: "main.Main.create", Params: make([]api.Type, 2), Blocks: c.l}}}
		if fault, e := ssa.Check(f); e != api.OK {
			t.Fatalf("%d: error %d at %v", i, e, fault)
		}
		p, e := emit.Emit(f)
		if e != api.OK {
			t.Fatalf("%d: error %d", i, e)
		}
		want, end := lower.Run(f, whole, nil, nil, 5000)
		for _, poison := range []bool{false, true} {
			got, end2 := Run(p, whole, nil, nil, 20000, Options{Poison: poison})
			if end != end2 && (end.Kind != meaning.Fuel || end2.Kind != meaning.Fuel) {
				t.Errorf("%d: %v, not %v", i, end2, end)
			}
			if end.Kind == meaning.Fuel {
				continue
			}
			w := mustWorld(t, whole)
			if s, e := w.Show(got.Actors[1].Fields[0]); !isAlike(want, got) || s != c.want {
				t.Errorf("%d: %s (error %d), not %s", i, s, e, c.want)
			}
		}
	}
}

// sumOf adds up so many constants, each of which is another one; the last sum is the value 9 + 2 n.
func sumOf(n int) []ssa.Ins {
	var l []ssa.Ins
	for i := range n {
		l = append(l, constant(10+2*i, api.Value{Kind: api.ValNumber + 8, Lo: uint64(i)}))
		if i == 0 {
			l = append(l, ssaIns(ssa.Native, 11, "U32.add", 10, 10))
			continue
		}
		l = append(l, ssaIns(ssa.Native, 11+2*i, "U32.add", 9+2*i, 10+2*i))
	}
	return l
}
