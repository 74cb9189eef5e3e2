package machine_test

import (
	"reflect"
	"slices"
	"testing"

	"hackamore/api"
	"hackamore/code"
	"hackamore/colour"
	"hackamore/internal/codes"
	. "hackamore/machine"
	"hackamore/meaning"
	"hackamore/types"
	"hackamore/world"
)

// Indices of the tables of code.
var (
	texts  = []string{"v", "sum", "U8.add", "U8.lt", "U8.neg", "U8.string", "nope", "U8.div_partial", "Bool.op_and", "x.y.add_partial", "create", "go", "U8.nope", "nope.add", "other", "string", "U32.add", "", "far"}
	values = []api.Value{u8(7), truth(1), truth(0), unit("None"), {}, u8(250), u8(0), pair(), {Kind: 30, Lo: 300, Hi: 9}, actor(2), object(2), {Kind: 17, Lo: 7}, {Kind: codes.Byte, Lo: 9, Hi: 8, Name: "n"}}
	named  = []string{"main.Cell", "U8", "main.Act", "Array[U8 val]", "main.Nope", "U8", "main.Main", "Env"}
	called = []string{"get", "add", "string", "twice", "nope", "get", "bad", "fails", "add_partial", "first", "last"}
)

func text(s string) int { return slices.Index(texts, s) }

func entity(s string) int { return slices.Index(named, s) }

func selector(s string) int { return slices.Index(called, s) }

func number(r int, n uint64) code.Ins {
	v := u8(n)
	i := slices.IndexFunc(values, func(x api.Value) bool { return x.Kind == v.Kind && x.Lo == n })
	return ins(code.Const, r, i, 0)
}

// written returns a program of the functions by which the others are tried, and of one with some instructions ahead of them.
func written(t *testing.T, params int, l ...code.Ins) code.Program {
	t.Helper()
	helpers := []code.Function{
		function("f", params, l...), function("same", 1, back(0)), function("fails", 0, ins(code.Raise, 0, 0, 0)), function("deep", 1, listed(indexed(ins(code.Direct, 1, 0, 0), 3), 0), back(1)),
		function("main.Cell.get", 1, indexed(ins(code.Get, 1, 0, 0), text("v")), back(1)), function("U8.twice", 1, listed(indexed(ins(code.Native, 1, 0, 0), text("U8.add")), 0, 0), back(1)), function("main.Cell.fails", 1, ins(code.Raise, 0, 0, 0)),
	}
	w := colour.World{Bodies: make([]colour.Body, 500), Classes: [][]colour.Entry{{{Selector: selector("get"), Method: 4}, {Selector: selector("bad"), Method: 99}, {Selector: selector("fails"), Method: 6}, {Selector: selector("first"), Method: 0}, {Selector: selector("last"), Method: 7}}, {{Selector: selector("twice"), Method: 5}}}}
	colours, _ := colour.Colours(w)
	vector, offsets, e := colour.Pack(w, colours)
	if e != api.OK {
		t.Fatalf("error %d", e)
	}
	all := []api.Type{types.Named("U8", api.Val, nil), types.Named("main.Cell", api.Tag, nil), types.Named("Any", api.Tag, nil)}
	return accepted(t, code.Program{Functions: helpers, Texts: texts, Types: all, Values: values, Entities: named, Selectors: called, Vector: vector, Offsets: offsets, Colours: colours})
}

// prepared returns a world in which the actor 1 has the field sum, and which has an Act, 2, and a Cell, the object 2, with the value 3.
func prepared(t *testing.T) *world.World {
	w := mustWorld(t, whole)
	w.Take(1)
	w.Spawn("main.Act")
	w.Make(1, "main.Cell")
	w.Set(actor(1), "sum", u8(3))
	if _, e := w.Set(object(2), "v", u8(3)); e != api.OK {
		t.Fatalf("error %d", e)
	}
	return w
}

// want is what comes of a function.
type want struct {
	kind  int
	value api.Value
	code  api.Errno
	used  int
}

func gives(v api.Value, used int) want { return want{meaning.Value, v, 0, used} }

func wrong(e api.Errno, used int) want { return want{meaning.Wrong, api.Value{}, e, used} }

// TestInstructions: what each instruction does; the function has the actor 1 as its first argument, and then others.
func TestInstructions(t *testing.T) {
	one := func(i ...code.Ins) []code.Ins { return append(i, back(1)) }
	call := func(name string, list ...int) code.Ins {
		return listed(indexed(ins(code.Call, 1, 0, 0), selector(name)), list...)
	}
	direct := func(n int, list ...int) code.Ins { return listed(indexed(ins(code.Direct, 1, 0, 0), n), list...) }
	native := func(name string, list ...int) code.Ins {
		return listed(indexed(ins(code.Native, 1, 0, 0), text(name)), list...)
	}
	arith := func(name string) code.Ins { return indexed(ins(code.Arith, 8, 6, 7), text(name)) }
	boxed := func(kind int) code.Ins { return ins(code.Box, 1, 8, kind) }
	spawn := func(name, method string, list ...int) code.Ins {
		return listed(indexed(ins(code.Spawn, 1, 0, 0), entity(name), text(method)), list...)
	}
	send := func(list ...int) code.Ins { return listed(indexed(ins(code.Send, 0, 0, 0), text("go")), list...) }
	get := func(r int, name string) code.Ins { return indexed(ins(code.Get, 1, r, 0), text(name)) }
	set := func(r int, name string, v int) code.Ins { return indexed(ins(code.Set, 1, r, v), text(name)) }
	fits := func(r, n int) code.Ins { return indexed(ins(code.Fits, 8, r, 0), n) }
	tuple := func(a int, list ...int) code.Ins { return listed(ins(code.Tuple, a, 0, 0), list...) }
	cell, act, me, nothing := object(2), actor(2), actor(1), api.Value{}
	for i, c := range []struct {
		l    []code.Ins
		args []api.Value
		want want
	}{
		{[]code.Ins{back(0)}, nil, gives(me, 1)}, {[]code.Ins{ins(code.Raise, 0, 0, 0)}, nil, want{meaning.Error, nothing, 0, 1}}, {[]code.Ins{ins(code.Stuck, 0, 0, 0)}, nil, wrong(api.ErrState, 1)},
		// Constants, moves, bits.
		{one(number(1, 7)), nil, gives(u8(7), 2)}, {one(ins(code.Const, 1, 7, 0)), nil, gives(pair(), 2)}, {one(ins(code.Const, 1, 4, 0)), nil, wrong(world.ErrUnset, 2)}, {[]code.Ins{ins(code.Const, 2, 4, 0), ins(code.Move, 1, 2, 0), back(0)}, nil, gives(me, 3)}, {one(ins(code.Const, 2, 4, 0), ins(code.Move, 1, 2, 0)), nil, wrong(world.ErrUnset, 3)}, {one(ins(code.Move, 1, 0, 0)), nil, gives(me, 2)},
		{one(number(8, 250), boxed(codes.Byte)), nil, gives(u8(250), 3)}, {one(ins(code.Const, 8, 8, 0), boxed(20)), nil, gives(api.Value{Kind: 20, Lo: 300, Hi: 9}, 3)}, {one(ins(code.Const, 6, 8, 0), ins(code.Move, 8, 6, 0), boxed(30)), nil, gives(values[8], 4)}, {one(ins(code.Const, 8, 12, 0), boxed(18)), nil, gives(api.Value{Kind: 18, Lo: 9, Hi: 8}, 3)}, {one(ins(code.Unbox, 8, 1, codes.Byte), boxed(17)), []api.Value{u8(5)}, gives(api.Value{Kind: 17, Lo: 5}, 3)}, {one(ins(code.Unbox, 8, 1, 17), boxed(17)), []api.Value{u8(5)}, wrong(ErrKind, 1)}, {one(ins(code.Unbox, 8, 0, codes.Byte), boxed(17)), nil, wrong(ErrKind, 1)}, {one(ins(code.Unbox, 8, 1, 10), boxed(17)), []api.Value{{}}, wrong(world.ErrUnset, 1)},
		// Arithmetic.
		{one(number(6, 7), number(7, 250), arith("U8.add"), boxed(codes.Byte)), nil, gives(u8(1), 5)}, {one(number(6, 7), number(7, 250), arith("U8.lt"), boxed(1)), nil, gives(truth(1), 5)}, {one(number(6, 250), number(7, 7), arith("U8.lt"), boxed(1)), nil, gives(truth(0), 5)}, {one(number(6, 7), number(7, 7), arith("U8.div_partial"), boxed(codes.Byte)), nil, gives(u8(1), 5)}, {one(number(6, 7), number(7, 0), arith("U8.div_partial"), boxed(codes.Byte)), nil, wrong(ErrKind, 3)}, {one(ins(code.Const, 6, 1, 0), ins(code.Const, 7, 1, 0), arith("Bool.op_and"), boxed(1)), nil, gives(truth(1), 5)}, {one(ins(code.Const, 6, 8, 0), number(7, 0), arith("U8.add"), boxed(codes.Byte)), nil, wrong(api.ErrType, 3)}, {one(number(6, 7), ins(code.Const, 7, 8, 0), arith("U8.add"), boxed(codes.Byte)), nil, wrong(api.ErrType, 3)},
		{one(number(6, 7), number(7, 0), arith("U8.neg"), boxed(1)), nil, wrong(ErrKind, 3)}, {one(number(6, 7), number(7, 0), arith("U8.string"), boxed(1)), nil, wrong(ErrKind, 3)}, {one(number(6, 7), number(7, 0), arith("nope"), boxed(1)), nil, wrong(ErrKind, 3)}, {one(number(6, 7), number(7, 0), arith("U8.nope"), boxed(1)), nil, wrong(ErrKind, 3)}, {one(number(6, 7), number(7, 0), arith("nope.add"), boxed(1)), nil, wrong(ErrKind, 3)}, {one(number(6, 7), number(7, 0), arith(""), boxed(1)), nil, wrong(ErrKind, 3)}, {one(number(6, 7), number(7, 250), arith("U32.add"), boxed(18)), nil, gives(api.Value{Kind: 18, Lo: 257}, 5)},
		// Tuples, what is the same, types.
		{one(tuple(1, 0, 0, 1)), []api.Value{u8(1)}, gives(pair(me, me, u8(1)), 2)}, {one(ins(code.Item, 1, 1, 1)), []api.Value{pair(u8(1), u8(2))}, gives(u8(2), 2)}, {one(ins(code.Item, 1, 1, 2)), []api.Value{pair(u8(1), u8(2))}, wrong(api.ErrRange, 1)}, {one(ins(code.Item, 1, 0, 0)), nil, wrong(api.ErrType, 1)}, {one(tuple(1, 0, 1)), []api.Value{{}}, wrong(world.ErrUnset, 1)}, {one(ins(code.Same, 8, 0, 0), boxed(1)), nil, gives(truth(1), 3)}, {one(ins(code.Same, 8, 0, 1), boxed(1)), []api.Value{act}, gives(truth(0), 3)},
		{one(fits(1, 0), boxed(1)), []api.Value{u8(1)}, gives(truth(1), 3)}, {one(fits(1, 1), boxed(1)), []api.Value{u8(1)}, gives(truth(0), 3)}, {one(fits(1, 1), boxed(1)), []api.Value{cell}, gives(truth(1), 3)}, {one(fits(1, 2), boxed(1)), []api.Value{cell}, gives(truth(1), 3)}, {one(fits(1, 2), boxed(1)), []api.Value{{}}, wrong(world.ErrUnset, 1)},
		// Objects and their fields.
		{one(ins(code.Text, 1, text("nope"), 0)), nil, gives(object(3), 2)}, {one(ins(code.Make, 1, entity("main.Cell"), 0)), nil, gives(object(3), 2)}, {one(ins(code.Stack, 1, entity("main.Cell"), 0)), nil, gives(object(3), 2)}, {one(ins(code.Make, 1, entity("Array[U8 val]"), 0)), nil, gives(object(3), 2)}, {one(ins(code.Make, 1, entity("main.Nope"), 0)), nil, wrong(world.ErrMethod, 1)}, {one(ins(code.Stack, 1, entity("main.Act"), 0)), nil, wrong(world.ErrMethod, 1)}, {one(get(0, "sum")), nil, gives(u8(3), 2)}, {one(get(1, "v")), []api.Value{cell}, gives(u8(3), 2)},
		{one(get(0, "nope")), nil, wrong(world.ErrMethod, 1)}, {one(get(0, "other")), nil, wrong(world.ErrUnset, 1)}, {one(get(1, "sum")), []api.Value{act}, wrong(api.ErrCap, 1)}, {one(get(1, "sum")), []api.Value{u8(1)}, wrong(world.ErrMethod, 1)}, {one(get(1, "v")), []api.Value{object(77)}, wrong(world.ErrBroken, 1)}, {one(set(1, "v", 0)), []api.Value{cell}, gives(u8(3), 2)}, {one(set(0, "other", 1)), []api.Value{u8(1)}, gives(unit("None"), 2)}, {one(set(0, "other", 1), get(0, "other")), []api.Value{u8(1)}, gives(u8(1), 3)}, {one(set(1, "sum", 0)), []api.Value{act}, wrong(api.ErrCap, 1)}, {one(set(0, "nope", 0)), nil, wrong(world.ErrMethod, 1)}, {one(set(0, "sum", 1)), []api.Value{{}}, wrong(world.ErrUnset, 1)}, {one(set(0, "sum", 1)), []api.Value{object(77)}, wrong(world.ErrBroken, 1)},
		// Calls.
		{one(call("get", 1)), []api.Value{cell}, gives(u8(3), 4)}, {one(listed(indexed(ins(code.Call, 1, 0, 0), 5), 1)), []api.Value{cell}, gives(u8(3), 4)}, {one(call("twice", 1)), []api.Value{u8(4)}, gives(u8(8), 4)}, {one(call("add", 1, 1)), []api.Value{u8(4)}, gives(u8(8), 2)}, {one(call("string", 1)), []api.Value{u8(4)}, gives(object(3), 2)}, {one(call("nope", 1)), []api.Value{u8(4)}, wrong(api.ErrNone, 1)}, {one(call("get", 0)), nil, wrong(world.ErrMethod, 1)}, {one(call("get", 1)), []api.Value{pair(me, me)}, wrong(api.ErrType, 1)}, {one(call("bad", 1)), []api.Value{cell}, wrong(api.ErrRange, 1)}, {one(call("last", 1)), []api.Value{cell}, wrong(api.ErrRange, 1)}, {one(call("first", 1)), []api.Value{cell}, wrong(api.ErrSize, 1)}, {one(call("first", 1, 1)), []api.Value{cell}, want{meaning.Empty, nothing, api.ErrDepth, 101}}, {[]code.Ins{raising(call("fails", 1), 0), back(0)}, []api.Value{cell}, want{meaning.Empty, nothing, api.ErrSteps, 200}}, {one(call("get", 1, 0)), []api.Value{cell}, wrong(api.ErrSize, 1)}, {one(call("get", 1)), []api.Value{{}}, wrong(world.ErrUnset, 1)},
		{one(call("fails", 1)), []api.Value{cell}, wrong(api.ErrState, 2)}, {one(raising(call("fails", 1), 5), back(0), number(1, 7)), []api.Value{cell}, gives(u8(7), 4)}, {[]code.Ins{raising(call("fails", 1), 4), back(1)}, []api.Value{cell}, gives(cell, 3)}, {[]code.Ins{raising(call("get", 1), 5), back(1), back(0)}, []api.Value{cell}, gives(u8(3), 4)}, {[]code.Ins{raising(call("add_partial", 1, 1), 5), back(1), back(0)}, []api.Value{u8(200)}, gives(me, 2)}, {[]code.Ins{raising(call("add_partial", 1, 1), 5), back(1), back(0)}, []api.Value{u8(100)}, gives(u8(200), 2)}, {one(call("add_partial", 1, 1)), []api.Value{u8(200)}, wrong(api.ErrState, 1)},
		{one(direct(1, 1)), []api.Value{u8(9)}, gives(u8(9), 3)}, {one(direct(1)), nil, wrong(api.ErrSize, 1)}, {one(direct(2)), nil, wrong(api.ErrState, 2)}, {[]code.Ins{raising(direct(2), 3), back(1)}, []api.Value{u8(1)}, gives(u8(1), 3)}, {[]code.Ins{raising(direct(1, 0), 5), back(1), ins(code.Stuck, 0, 0, 0)}, nil, gives(me, 3)}, {one(direct(3, 0)), nil, want{meaning.Empty, nothing, api.ErrDepth, 101}}, {one(native("U8.add", 1, 1)), []api.Value{u8(4)}, gives(u8(8), 2)}, {one(native("string", 1)), []api.Value{u8(4)}, gives(object(3), 2)}, {one(native("x.y.add_partial", 1, 1)), []api.Value{u8(4)}, gives(u8(8), 2)}, {one(native("x.y.add_partial", 1, 1)), []api.Value{u8(200)}, wrong(api.ErrState, 1)}, {[]code.Ins{raising(native("x.y.add_partial", 1, 1), 5), back(0), back(1)}, []api.Value{u8(200)}, gives(u8(200), 2)}, {one(native("", 1)), []api.Value{u8(4)}, wrong(api.ErrNone, 1)},
		// Actors.
		{one(spawn("main.Act", "create", 1)), []api.Value{u8(4)}, gives(actor(3), 2)}, {one(spawn("main.Cell", "create", 1)), []api.Value{u8(4)}, wrong(world.ErrMethod, 1)}, {one(spawn("main.Act", "go", 1)), []api.Value{u8(4)}, wrong(world.ErrMethod, 1)}, {one(spawn("main.Act", "create")), nil, wrong(api.ErrSize, 1)}, {one(spawn("main.Cell", "create")), nil, wrong(world.ErrMethod, 1)}, {[]code.Ins{spawn("main.Act", "create", 1), ins(code.Jump, 0, 0, 0)}, []api.Value{u8(4)}, want{meaning.Empty, nothing, api.ErrFull, 123}}, {one(spawn("main.Nope", "create")), nil, wrong(world.ErrMethod, 1)}, {one(spawn("main.Act", "create", 1)), []api.Value{object(77)}, wrong(world.ErrBroken, 1)}, {[]code.Ins{send(1, 0), back(0)}, []api.Value{act}, gives(me, 2)}, {[]code.Ins{send(1), back(0)}, []api.Value{cell}, wrong(api.ErrType, 1)}, {[]code.Ins{send(1), back(0)}, []api.Value{actor(9)}, wrong(api.ErrNone, 1)},
		// Jumps.
		{[]code.Ins{ins(code.Jump, 0, 2, 0), back(0), number(1, 7), back(1)}, nil, gives(u8(7), 3)}, {[]code.Ins{ins(code.Const, 8, 1, 0), ins(code.Branch, 8, 3, 0), back(0), back(1)}, []api.Value{u8(1)}, gives(u8(1), 3)}, {[]code.Ins{ins(code.Const, 8, 2, 0), ins(code.Branch, 8, 3, 0), back(0), back(1)}, []api.Value{u8(1)}, gives(me, 3)}, {[]code.Ins{number(8, 250), ins(code.Branch, 8, 3, 0), back(0), back(1)}, []api.Value{u8(1)}, gives(me, 3)}, {[]code.Ins{number(8, 7), ins(code.Branch, 8, 3, 0), back(0), back(1)}, []api.Value{u8(1)}, gives(u8(1), 3)}, {[]code.Ins{ins(code.Jump, 0, 0, 0)}, nil, want{meaning.Empty, nothing, api.ErrSteps, 200}},
	} {
		args := append([]api.Value{me}, c.args...)
		p := written(t, len(args), c.l...)
		for _, poison := range []bool{false, true} {
			w := prepared(t)
			out := Call(p, w, 1, 0, args, 200, Options{Poison: poison})
			if !reflect.DeepEqual(out, meaning.Outcome{Kind: c.want.kind, Value: c.want.value, Code: c.want.code, Used: c.want.used}) {
				t.Errorf("%d: %v, not %v", i, out, c.want)
			}
			if e := world.Check(w.State()); e != api.OK {
				t.Errorf("%d: the state is not right: error %d", i, e)
			}
		}
		for n := range c.want.used {
			out := Call(p, prepared(t), 1, 0, args, n, Options{})
			if !reflect.DeepEqual(out, meaning.Outcome{Kind: meaning.Empty, Code: api.ErrSteps, Used: n}) {
				t.Errorf("%d: with the fuel %d: %v", i, n, out)
			}
		}
	}
}
