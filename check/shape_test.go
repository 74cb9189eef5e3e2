package check_test

import (
	"slices"
	"strconv"
	"strings"
	"testing"

	"hackamore/api"
	. "hackamore/check"
	"hackamore/internal/sample"
)

// right has an expression for each operation that is as the table says; x is any expression.
func right() []api.Expr {
	x := this()
	one := ex(api.OpCase, ": Bool val", noExpr(), x)
	l := []api.Expr{
		ex(api.OpLit, ": String val"), ex(api.OpLit, "1: U8 ref^"), local("x"), x, get("f", x), ex(api.OpSet, "f", x, x),
		ex(api.OpVar, "x: $A"), ex(api.OpVar, "x: U8 val", x), ex(api.OpLet, "x: (this -> $A)"), ex(api.OpLet, "x: U8 val", x),
		ex(api.OpAssign, "x", x), ex(api.OpConsume, strings.Repeat("x", api.MaxName)), seq(), seq(x), seq(x, x, x),
		ex(api.OpIf, "", x, x, x), ex(api.OpIf, "", x, x, noExpr()), ex(api.OpWhile, "", x, x, x), ex(api.OpWhile, "", x, x, noExpr()),
		ex(api.OpMatch, "", x, one), ex(api.OpMatch, "", x, one, ex(api.OpCase, "y: U8 val", x, x)),
		ex(api.OpTry, "", x, x, x), ex(api.OpTry, "", x, noExpr(), noExpr()), ex(api.OpTry, "", x, noExpr(), x),
		ex(api.OpError, ""), ex(api.OpReturn, ""), ex(api.OpReturn, "", x), ex(api.OpBreak, ""), ex(api.OpContinue, ""),
		ex(api.OpCall, "f", x), ex(api.OpCall, "\xff", x, x, x), ex(api.OpNew, "create: main.Cell ref"), ex(api.OpNew, "create: main.Cell ref", x, x),
		ex(api.OpRecover, ": this iso", x), ex(api.OpRecover, ": this", x), ex(api.OpRecover, ": this val!", x),
		ex(api.OpTuple, "", x, x), ex(api.OpTuple, "", slices.Repeat([]api.Expr{x}, api.MaxList)...),
		ex(api.OpItem, "0", x), ex(api.OpItem, "63", x), ex(api.OpIs, "", x, x), ex(api.OpUnit, ": None val"),
		noExpr(), {Op: 0, Text: "x", Types: typs("U8 val"), Kids: []api.Expr{{Op: 99}}},
	}
	return append(l, ex(api.OpIf, "", x, x, api.Expr{Text: "x", Types: []api.Type{{Kind: 9}}, Kids: []api.Expr{{Op: -1}}}))
}

func TestShapeRight(t *testing.T) {
	for _, x := range right() {
		if path, e := Shape(x); len(path) > 0 || e != api.OK {
			t.Errorf("%s: %v, error %d", show(x), path, e)
		}
	}
}

// TestShapeWrong: expressions that by themselves are wrong, also within others.
func TestShapeWrong(t *testing.T) {
	x, none := this(), noExpr()
	one := ex(api.OpCase, ": Bool val", none, x)
	wrong := []api.Expr{
		{Op: -1}, {Op: api.OpLast + 1}, ex(api.OpLit, "1"), ex(api.OpLit, "1: (U8 val | None val)"), ex(api.OpLit, "1: $A"), ex(api.OpLit, "1: U8 val", x),
		{Op: api.OpLit, Text: "1", Types: typs("U8 val", "U8 val")}, {Op: api.OpLit, Text: "1", Types: []api.Type{{Kind: api.TypeName, Name: "U8"}}},
		local(""), local(strings.Repeat("x", api.MaxName+1)), ex(api.OpLocal, "x: U8 val"), ex(api.OpLocal, "x", x),
		ex(api.OpThis, "x"), ex(api.OpThis, ": U8 val"), ex(api.OpThis, "", x), get("", x), get("f", none), ex(api.OpGet, "f"), ex(api.OpGet, "f", x, x),
		get("f", one), ex(api.OpGet, "f: U8 val", x), ex(api.OpSet, "", x, x), ex(api.OpSet, "f", x), ex(api.OpSet, "f", none, x), ex(api.OpSet, "f", x, none), ex(api.OpSet, "f", x, x, x),
		ex(api.OpVar, "x"), ex(api.OpVar, ": U8 val"), ex(api.OpVar, "x: U8 val", none), ex(api.OpVar, "x: U8 val", x, x), {Op: api.OpLet, Text: "x", Types: []api.Type{{}}},
		{Op: api.OpLet, Text: "x", Types: typs("U8 val", "U8 val")}, ex(api.OpLet, "x"), ex(api.OpLet, ": U8 val", x),
		ex(api.OpAssign, "x"), ex(api.OpAssign, "", x), ex(api.OpAssign, "x", none), ex(api.OpAssign, "x: U8 val", x), ex(api.OpAssign, "x", x, x), ex(api.OpConsume, ""), ex(api.OpConsume, "x", x),
		seq(none), seq(x, none), seq(one), ex(api.OpSeq, "x", x), ex(api.OpSeq, ": U8 val", x),
		ex(api.OpIf, "", x, x), ex(api.OpIf, "", none, x, x), ex(api.OpIf, "", x, none, x), ex(api.OpIf, "", x, x, x, x), ex(api.OpIf, "i", x, x, x), ex(api.OpIf, "", x, one, x),
		ex(api.OpWhile, "", x, x), ex(api.OpWhile, "", none, x, x), ex(api.OpWhile, "", x, none, x), ex(api.OpWhile, "", x, x, one), ex(api.OpWhile, "w", x, x, x),
		ex(api.OpMatch, "", x), ex(api.OpMatch, ""), ex(api.OpMatch, "", none, one), ex(api.OpMatch, "", x, none), ex(api.OpMatch, "", x, x), ex(api.OpMatch, "", one, one), ex(api.OpMatch, "", x, one, x), ex(api.OpMatch, "m", x, one),
		one, ex(api.OpTry, "", x, x), ex(api.OpTry, "", none, x, x), ex(api.OpTry, "", x, one, x), ex(api.OpTry, "", x, x, x, x), ex(api.OpTry, "t", x, x, x),
		ex(api.OpError, "e"), ex(api.OpError, "", x), ex(api.OpReturn, "", none), ex(api.OpReturn, "", x, x), ex(api.OpReturn, "r"), ex(api.OpBreak, "b"), ex(api.OpBreak, "", x), ex(api.OpContinue, "", x), ex(api.OpContinue, ": U8 val"),
		ex(api.OpCall, "f"), ex(api.OpCall, "", x), ex(api.OpCall, "f", none), ex(api.OpCall, "f", x, none), ex(api.OpCall, "f: U8 val", x), ex(api.OpCall, "f", x, one),
		ex(api.OpNew, "create"), ex(api.OpNew, ": main.Cell ref"), ex(api.OpNew, "create: (U8 val & U8 val)"), ex(api.OpNew, "create: U8 val", none), {Op: api.OpNew, Text: "f", Types: typs("U8 val", "U8 val")},
		ex(api.OpRecover, "", x), ex(api.OpRecover, ": U8 val", x), ex(api.OpRecover, ": this iso"), ex(api.OpRecover, ": this iso", none), ex(api.OpRecover, ": this iso", x, x), ex(api.OpRecover, "r: this iso", x),
		{Op: api.OpRecover, Types: []api.Type{{Kind: api.TypeSelf, Cap: 7}}, Kids: []api.Expr{x}},
		ex(api.OpTuple, "", x), ex(api.OpTuple, ""), ex(api.OpTuple, "", x, none), ex(api.OpTuple, "", slices.Repeat([]api.Expr{x}, api.MaxList+1)...), ex(api.OpTuple, "t", x, x),
		ex(api.OpItem, "", x), ex(api.OpItem, "00", x), ex(api.OpItem, "01", x), ex(api.OpItem, "+1", x), ex(api.OpItem, "-1", x), ex(api.OpItem, "64", x), ex(api.OpItem, "1 ", x), ex(api.OpItem, "99999999999999999999", x), ex(api.OpItem, "1"), ex(api.OpItem, "1", none), ex(api.OpItem, "1", x, x),
		ex(api.OpIs, "", x), ex(api.OpIs, "", x, none), ex(api.OpIs, "", x, x, x), ex(api.OpIs, "i", x, x), ex(api.OpUnit, ""), ex(api.OpUnit, "u: None val"), ex(api.OpUnit, ": None val", x), ex(api.OpUnit, ": this val"),
	}
	for _, x := range wrong {
		if path, e := Shape(x); len(path) > 0 || e != api.ErrForm {
			t.Errorf("%s: %v, error %d", show(x), path, e)
		}
		if x.Op == api.OpCase {
			continue
		}
		inner := seq(this(), ex(api.OpIf, "", this(), x, noExpr()), ex(api.OpThis, "second"))
		if p, e := Shape(inner); !slices.Equal(p, path(1, 1)) || e != api.ErrForm {
			t.Errorf("%s within others: %v, error %d", show(x), p, e)
		}
	}
}

// TestShapeFirst: a node is told ahead of its Kids; what must not be none, or an OpCase, is a fault of the node above.
func TestShapeFirst(t *testing.T) {
	bad := ex(api.OpThis, "x")
	for _, c := range []struct {
		x    api.Expr
		path []int
	}{
		{ex(api.OpGet, "", bad), nil},
		{seq(this(), seq(seq(bad), bad)), path(1, 0, 0)},
		{seq(seq(noExpr()), bad), path(0)},
		{seq(seq(ex(api.OpCase, "")), bad), path(0)},
		{ex(api.OpMatch, "", this(), ex(api.OpCase, "x", noExpr(), this())), path(1)},
		{ex(api.OpMatch, "", this(), ex(api.OpCase, ": U8 val", this(), noExpr())), path(1)},
		{ex(api.OpMatch, "", this(), ex(api.OpCase, ": U8 val", bad, this())), path(1, 0)},
		{ex(api.OpMatch, "", this(), ex(api.OpCase, strings.Repeat("x", 61)+": U8 val", noExpr(), this())), path(1)},
	} {
		if p, e := Shape(c.x); !slices.Equal(p, c.path) || e != api.ErrForm {
			t.Errorf("%s: %v, not %v; error %d", show(c.x), p, c.path, e)
		}
	}
}

// TestShapeSize: sizes and depths at the limits; what stands below none is not counted.
func TestShapeSize(t *testing.T) {
	deep := func(n int, x api.Expr) api.Expr {
		for range n {
			x = seq(x)
		}
		return x
	}
	wide := func(n int) api.Expr { return seq(slices.Repeat([]api.Expr{this()}, n)...) }
	big := api.Expr{Kids: []api.Expr{wide(api.MaxNodes), deep(300, this())}}
	chosen := func(x api.Expr) api.Expr { return ex(api.OpIf, "", this(), this(), x) }
	for _, c := range []struct {
		x api.Expr
		e api.Errno
	}{
		{deep(99, this()), api.OK}, {deep(100, this()), api.ErrSize}, {deep(100000, this()), api.ErrSize},
		{wide(api.MaxNodes - 1), api.OK}, {wide(api.MaxNodes), api.ErrSize}, {seq(wide(1000), wide(1000), wide(1000), wide(995)), api.OK},
		{seq(wide(1000), wide(1000), wide(1000), wide(996)), api.ErrSize},
		{big, api.OK}, {chosen(big), api.OK}, {deep(98, chosen(big)), api.OK}, {deep(99, chosen(big)), api.ErrSize},
		{ex(api.OpThis, "wrong", wide(api.MaxNodes)), api.ErrSize}, {ex(api.OpCase, "", deep(100, this())), api.ErrSize},
	} {
		if p, e := Shape(c.x); len(p) > 0 || e != c.e {
			nodes := strconv.Itoa(len(c.x.Kids))
			t.Errorf("%s Kids: %v, error %d, not %d", nodes, p, e, c.e)
		}
	}
	twice := this() // a tree that is written small, but is large
	for range 60 {
		twice = seq(twice, twice)
	}
	if _, e := Shape(twice); e != api.ErrSize {
		t.Errorf("error %d", e)
	}
}

// TestShapeByChance: what a wrong part does to expressions that are right.
func TestShapeByChance(t *testing.T) {
	pick := sample.Source(3)
	l := slices.DeleteFunc(right(), func(x api.Expr) bool { return x.Op == 0 || len(x.Kids) > 10 })
	var grow func(depth int) api.Expr
	grow = func(depth int) api.Expr {
		x := l[pick(len(l))]
		x.Kids = slices.Clone(x.Kids)
		for i, k := range x.Kids {
			if depth > 0 && k.Op == api.OpThis {
				x.Kids[i] = grow(depth - 1)
			}
		}
		return x
	}
	for range 2000 {
		x := grow(4)
		if p, e := Shape(x); e != api.OK || p != nil {
			t.Fatalf("%s: %v, error %d", show(x), p, e)
		}
		y, at := spoilt(x, pick)
		if p, e := Shape(y); e != api.ErrForm || !slices.Equal(p, at) {
			t.Fatalf("%s: %v, not %v; error %d", show(y), p, at, e)
		}
	}
}

// spoilt returns an expression in which a node got a Kid too many, and the path of the node. (Of those that may have any number the type, or the Text, is wrong.)
func spoilt(x api.Expr, pick func(int) int) (api.Expr, []int) {
	if len(x.Kids) > 0 && pick(3) > 0 {
		i := pick(len(x.Kids))
		if x.Kids[i].Op != 0 {
			k, p := spoilt(x.Kids[i], pick)
			x.Kids = slices.Clone(x.Kids)
			x.Kids[i] = k
			return x, append([]int{i}, p...)
		}
	}
	x.Types = append(slices.Clone(x.Types), typ("U8 val"))
	if len(x.Types) == 1 {
		x.Types = append(x.Types, x.Types...)
	}
	return x, nil
}
