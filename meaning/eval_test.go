package meaning_test

import (
	"strconv"
	"strings"
	"testing"

	"hackamore/api"
	"hackamore/internal/pony"
	. "hackamore/meaning"
	"hackamore/world"
)

// TestExamples: those of the chapter.
func TestExamples(t *testing.T) {
	testEval(t, pony.Program(text), []evaluated{
		{expr(api.OpTry, "", fail(), byte8("1"), expr(api.OpReturn, "", byte8("2"))), "return U8 2", 5, ""},
		{expr(api.OpWhile, "", not(), byte8("1"), byte8("3")), "value U8 3", 3, ""},
		{assign("x", byte8("7")), "value U8 5; x=U8 7; u=none", 2, ""},
	})
	w := begun(t, pony.Program(text))
	if o := Eval(w, 1, api.Value{}, yes(), nil, 0); told(w, o) != "empty 10" || o.Used != 0 {
		t.Errorf("%v", o)
	}
}

func TestLiterals(t *testing.T) {
	testEval(t, pony.Program(text), []evaluated{
		{byte8("255"), "value U8 255", 1, ""}, {lit("-3: I128"), "value I128 -3", 1, ""}, {lit("1.5: F64"), "value F64 1.5", 1, ""}, {yes(), "value true", 1, ""}, {not(), "value false", 1, ""}, {lit("a\"b: String"), `value "a\"b"#0`, 1, ""}, {lit(": String"), `value ""#0`, 1, ""},
		{byte8("256"), "wrong 3", 1, ""}, {byte8("x"), "wrong 2", 1, ""}, {byte8(""), "wrong 2", 1, ""}, {lit("1: Nope"), "wrong 5", 1, ""}, {lit("1: "), "wrong 5", 1, ""}, {lit("True: Bool"), "wrong 2", 1, ""}, {lit(": Bool"), "wrong 2", 1, ""}, {lit("1: None"), "wrong 5", 1, ""},
		{byte8(strings.Repeat("0", 401)), "wrong 16", 1, ""}, // the world has no part in it: it is no limit
		{lit(strings.Repeat("x", 20000) + ": String"), "value ?", 1, ""}, {lit(strings.Repeat("x", 20001) + ": String"), "empty 16", 1, ""},
		{api.Expr{Op: api.OpLit, Text: "3", Types: []api.Type{{Name: "U8"}}}, "value U8 3", 1, ""}, // its name alone counts
	})
}

func TestLocals(t *testing.T) {
	v := func(op int, s string, l ...api.Expr) api.Expr { return expr(op, s+": U8 val", l...) }
	testEval(t, pony.Program(text), []evaluated{
		{local("x"), "value U8 5", 1, ""}, {local("u"), "wrong 192", 1, ""}, {local("y"), "wrong 12", 1, ""}, {local(""), "wrong 12", 1, ""},
		{v(api.OpVar, "y", byte8("1")), "value None; x=U8 5; u=none; y=U8 1", 2, ""}, {v(api.OpLet, "y", byte8("1")), "value None; x=U8 5; u=none; y=U8 1", 2, ""}, {v(api.OpVar, "y"), "value None; x=U8 5; u=none; y=none", 1, ""}, {v(api.OpLet, "x"), "value None; x=none; u=none", 1, ""},
		{v(api.OpVar, "x", byte8("1")), "value None; x=U8 1; u=none", 2, ""}, {v(api.OpLet, "u", local("x")), "value None; x=U8 5; u=U8 5", 2, ""}, {v(api.OpVar, "y", v(api.OpVar, "z", local("x"))), "value None; x=U8 5; u=none; z=U8 5; y=None", 3, ""}, {v(api.OpVar, "y", fail()), "error; x=U8 5; u=none", 2, ""},
		{assign("u", byte8("1")), "value None; x=U8 5; u=U8 1", 2, ""}, {assign("y", byte8("1")), "wrong 12", 2, ""}, {assign("y", fail()), "error", 2, ""}, {assign("y", v(api.OpVar, "y", byte8("1"))), "value U8 1; x=U8 5; u=none; y=None", 3, ""}, {assign("x", assign("x", byte8("6"))), "value U8 6; x=U8 5; u=none", 3, ""},
		{expr(api.OpConsume, "x"), "value U8 5; x=none; u=none", 1, ""}, {expr(api.OpConsume, "u"), "wrong 192", 1, ""}, {expr(api.OpConsume, "y"), "wrong 12", 1, ""}, {seq(expr(api.OpConsume, "x"), local("x")), "wrong 192; x=none; u=none", 3, ""},
		{seq(expr(api.OpConsume, "x"), assign("x", byte8("9")), local("x")), "value U8 9; x=U8 9; u=none", 5, ""}, {this(), "value Array[U8 val]#0{}", 1, ""}, {v(api.OpVar, "", byte8("1")), "value None; x=U8 5; u=none; =U8 1", 2, ""},
	})
}

func TestFields(t *testing.T) {
	get := func(f string, x api.Expr) api.Expr { return expr(api.OpGet, f, x) }
	set := func(f string, x, v api.Expr) api.Expr { return expr(api.OpSet, f, x, v) }
	cell := makes("create: main.Cell")
	let := func(x api.Expr) api.Expr { return expr(api.OpVar, "c: main.Cell ref", x) }
	testEval(t, pony.Program(text), []evaluated{
		{get("v", makes("of: main.Cell", byte8("3"))), "value U8 3", 0, ""}, {get("v", cell), "wrong 192", 0, ""}, {get("w", cell), "wrong 191", 0, ""}, {get("v", byte8("1")), "wrong 191", 2, ""}, {get("v", this()), "wrong 191", 2, ""}, {get("v", fail()), "error", 2, ""}, {get("v", expr(api.OpUnit, ": None val")), "wrong 191", 2, ""},
		{set("v", cell, byte8("1")), "value None", 0, ""}, {set("v", makes("of: main.Cell", byte8("3")), byte8("1")), "value U8 3", 0, ""}, {set("w", cell, byte8("1")), "wrong 191", 0, ""}, {set("v", byte8("1"), byte8("2")), "wrong 191", 3, ""}, {set("v", fail(), push("1")), "error", 2, ""}, {set("v", seq(push("1"), cell), fail()), "error", 0, "1"},
		{seq(let(cell), set("next", local("c"), local("c")), set("v", local("c"), byte8("2")), local("c")), "value main.Cell#0{v=U8 2, next=#0}; x=U8 5; u=none; c=main.Cell#0{v=U8 2, next=#0}", 0, ""},
	})
	w := begun(t, pony.Program(text))
	for i, c := range []struct {
		actor int
		this  api.Value
		e     api.Expr
		want  string
	}{
		{2, act(2), set("n", this(), byte8("4")), "value None"}, {2, act(2), get("n", this()), "value U8 4"}, {1, act(2), get("n", this()), "wrong 13"}, {1, act(2), set("n", this(), byte8("4")), "wrong 13"}, {1, act(2), set("n", this(), fail()), "error"}, {1, act(2), get("nope", this()), "wrong 13"},
		{2, act(0), get("n", this()), "wrong 13"}, {1, act(1), get("n", this()), "wrong 191"}, {2, act(2), get("nope", this()), "wrong 191"}, {2, act(2), get("cell", this()), "wrong 192"}, {0, act(9), get("n", this()), "wrong 13"}, {9, act(9), get("n", this()), "wrong 190"}, {-1, act(2), get("n", this()), "wrong 13"},
		{2, obj(9), get("n", this()), "wrong 190"}, {2, act(2), set("n", this(), expr(api.OpTuple, "", this(), local("y"))), "wrong 12"}, {2, api.Value{}, set("n", this(), this()), "wrong 191"}, {2, act(2), set("n", this(), expr(api.OpUnit, ": Nope val")), "wrong 190"},
	} {
		if got := told(w, Eval(w, c.actor, c.this, c.e, nil, 100)); got != c.want {
			t.Errorf("%d: %s, not %s", i, got, c.want)
		}
	}
}

func TestChoices(t *testing.T) {
	choose := func(c, a, b api.Expr) api.Expr { return expr(api.OpIf, "", c, a, b) }
	testEval(t, pony.Program(text), []evaluated{
		{seq(), "value None", 1, ""}, {seq(byte8("1")), "value U8 1", 2, ""}, {seq(push("1"), byte8("2")), "value U8 2", 5, "1"}, {seq(push("1"), fail(), push("2")), "error", 0, "1"}, {seq(seq(expr(api.OpReturn, "", byte8("3"))), push("2")), "return U8 3", 0, ""}, {seq(no), "wrong 2", 2, ""},
		{choose(yes(), byte8("1"), push("2")), "value U8 1", 3, ""}, {choose(not(), push("1"), byte8("2")), "value U8 2", 3, ""}, {choose(not(), push("1"), no), "value None", 2, ""}, {choose(yes(), no, no), "wrong 2", 3, ""}, {choose(byte8("1"), push("1"), no), "wrong 11", 2, ""}, {choose(no, push("1"), no), "wrong 2", 2, ""},
		{choose(fail(), push("1"), no), "error", 2, ""}, {choose(expr(api.OpReturn, ""), push("1"), no), "return None", 2, ""}, {choose(expr(api.OpBreak, ""), push("1"), no), "break", 2, ""}, {choose(yes(), expr(api.OpContinue, ""), no), "continue", 3, ""}, {choose(expr(api.OpUnit, ": None val"), push("1"), no), "wrong 11", 2, ""},
		{fail(), "error", 1, ""}, {expr(api.OpBreak, ""), "break", 1, ""}, {expr(api.OpContinue, ""), "continue", 1, ""}, {expr(api.OpReturn, ""), "return None", 1, ""}, {expr(api.OpReturn, "", local("x")), "return U8 5", 2, ""}, {expr(api.OpReturn, "", fail()), "error", 2, ""}, {expr(api.OpReturn, "", expr(api.OpBreak, "")), "break", 2, ""},
		{expr(api.OpReturn, "", no), "wrong 2", 2, ""}, {no, "wrong 2", 1, ""}, {api.Expr{Op: 27}, "wrong 2", 1, ""}, {api.Expr{Op: -1}, "wrong 2", 1, ""}, {expr(api.OpCase, ": U8 val", no, byte8("1")), "wrong 2", 1, ""}, {api.Expr{Kids: []api.Expr{yes()}}, "wrong 2", 1, ""},
	})
}

func TestLoops(t *testing.T) {
	loop := func(c, b, e api.Expr) api.Expr { return expr(api.OpWhile, "", c, b, e) }
	less := func(n string) api.Expr { return call("lt", local("x"), byte8(n)) }
	next := assign("x", call("add", local("x"), byte8("1")))
	brk, cont := expr(api.OpBreak, ""), expr(api.OpContinue, "")
	first := func(x api.Expr) api.Expr { return expr(api.OpIf, "", less("6"), seq(next, x), not()) } // once
	testEval(t, pony.Program(text), []evaluated{
		{loop(not(), push("1"), no), "value None", 2, ""}, {loop(not(), push("1"), push("2")), "value None", 5, "2"}, {loop(not(), no, byte8("3")), "value U8 3", 3, ""},
		{loop(less("8"), seq(push("1"), next), push("9")), "value U8 7; x=U8 8; u=none", 0, "1 1 1"}, {loop(less("8"), seq(next, local("x")), no), "value U8 8; x=U8 8; u=none", 0, ""}, {loop(less("6"), next, no), "value U8 5; x=U8 6; u=none", 0, ""},
		{loop(yes(), brk, push("9")), "value None", 3, ""}, {loop(brk, push("1"), push("9")), "value None", 2, ""}, {loop(less("8"), seq(next, cont, push("1")), push("9")), "value None; x=U8 8; u=none", 0, ""},
		{loop(less("8"), seq(next, expr(api.OpIf, "", less("8"), local("x"), cont)), no), "value None; x=U8 8; u=none", 0, ""}, {loop(less("8"), seq(next, expr(api.OpIf, "", less("8"), cont, local("x"))), no), "value U8 8; x=U8 8; u=none", 0, ""},
		{loop(first(cont), push("1"), push("9")), "value None; x=U8 6; u=none", 0, "9"}, {loop(first(brk), push("1"), push("9")), "value None; x=U8 6; u=none", 0, ""}, {loop(first(yes()), push("1"), push("9")), "value None; x=U8 6; u=none", 0, "1"},
		{loop(byte8("1"), push("1"), no), "wrong 11", 2, ""}, {loop(yes(), fail(), push("9")), "error", 3, ""}, {loop(fail(), push("1"), push("9")), "error", 2, ""}, {loop(yes(), expr(api.OpReturn, "", byte8("2")), push("9")), "return U8 2", 4, ""}, {loop(yes(), no, no), "wrong 2", 3, ""}, {loop(no, no, no), "wrong 2", 2, ""},
		{loop(not(), no, brk), "break", 3, ""}, {loop(not(), no, cont), "continue", 3, ""}, {loop(yes(), loop(not(), no, brk), push("9")), "value None", 5, ""}, {loop(yes(), seq(loop(yes(), brk, no), brk), push("9")), "value None", 7, ""}, {loop(not(), no, fail()), "error", 3, ""},
		{loop(less("8"), seq(next, loop(not(), no, cont)), no), "value None; x=U8 8; u=none", 0, ""},
	})
	w := begun(t, pony.Program(text))
	for _, e := range []api.Expr{loop(yes(), seq(), no), loop(cont, seq(), no), loop(yes(), cont, no)} {
		if o := Eval(w, 1, api.Value{}, e, nil, api.MaxFuel); told(w, o) != "empty 10" || o.Used != api.MaxFuel {
			t.Errorf("%s, used %d", told(w, o), o.Used)
		}
	}
}

func TestMatches(t *testing.T) {
	match := func(x api.Expr, l ...api.Expr) api.Expr {
		return expr(api.OpMatch, "", append([]api.Expr{x}, l...)...)
	}
	in := func(s string, guard, body api.Expr) api.Expr { return expr(api.OpCase, s, guard, body) }
	dog := makes("create: main.Dog")
	pair := expr(api.OpTuple, "", byte8("1"), yes())
	testEval(t, pony.Program(text), []evaluated{
		{match(byte8("3"), in(": Bool val", no, push("1")), in("y: U8 val", no, local("y")), in(": U8 val", no, push("2"))), "value U8 3; x=U8 5; u=none; y=U8 3", 3, ""}, {match(byte8("3")), "value None", 2, ""}, {match(byte8("3"), in(": Bool val", no, push("1"))), "value None", 2, ""}, {match(fail(), in(": Bool val", no, push("1"))), "error", 2, ""},
		{match(byte8("3"), in("x: U8 val", not(), push("1")), in("u: Any tag", yes(), local("u"))), "value U8 3; x=U8 3; u=U8 3", 5, ""}, {match(byte8("3"), in("y: U8 val", call("eq", local("y"), byte8("3")), local("y"))), "value U8 3; x=U8 5; u=none; y=U8 3", 0, ""}, {match(byte8("3"), in("y: U8 val", not(), push("1"))), "value None; x=U8 5; u=none; y=U8 3", 3, ""},
		{match(byte8("3"), in(": U8 val", byte8("1"), push("1"))), "wrong 11", 3, ""}, {match(byte8("3"), in(": U8 val", fail(), push("1"))), "error", 3, ""}, {match(byte8("3"), in(": U8 val", expr(api.OpContinue, ""), push("1"))), "continue", 3, ""}, {match(byte8("3"), in(": U8 val", no, no)), "wrong 2", 3, ""}, {match(byte8("3"), in(": Bool val", no, no)), "value None", 2, ""},
		{match(dog, in(": main.Cell ref", no, byte8("1")), in(": main.Named box", no, byte8("2"))), "value U8 2", 0, ""}, {match(pair, in("y: (Bool val, Bool val)", no, byte8("1")), in("y: (U8 val, Bool val)", no, expr(api.OpItem, "1", local("y")))), "value true; x=U8 5; u=none; y=(U8 1, true)", 0, ""}, {match(pair, in("_: Any tag", no, byte8("1"))), "value None", 0, ""},
		{match(byte8("3"), byte8("1")), "wrong 2", 2, ""}, {match(byte8("3"), in(": U8 val", no, push("1")), byte8("1")), "value None", 0, "1"}, {match(byte8("3"), in(": Bool val", no, push("1")), no), "wrong 2", 2, ""}, {match(byte8("3"), api.Expr{Op: api.OpCase, Kids: []api.Expr{no, yes()}}), "wrong 2", 2, ""},
		{match(byte8("3"), api.Expr{Op: api.OpCase, Types: pony.Types("U8 val", "U8 val"), Kids: []api.Expr{no, yes()}}), "wrong 2", 2, ""}, {match(byte8("3"), expr(api.OpCase, ": U8 val", no)), "wrong 2", 2, ""}, {match(byte8("3"), expr(api.OpCase, ": U8 val", no, yes(), yes())), "wrong 2", 2, ""},
		{match(this(), in("y: Any tag", no, call("push", local("y"), byte8("4")))), "value None; x=U8 5; u=none; y=Array[U8 val]#0{U8 4}", 0, "4"},
	})
	w := begun(t, pony.Program(text))
	if got := told(w, Eval(w, 1, api.Value{}, match(this(), in(": Any tag", no, yes())), nil, 100)); got != "value None" { // no value is of no type
		t.Error(got)
	}
}

// TestTries: the last part is evaluated just once, whatever came ahead. (P18.4)
func TestTries(t *testing.T) {
	try := func(a, b, c api.Expr) api.Expr { return expr(api.OpTry, "", a, b, c) }
	ret := func(n string) api.Expr { return expr(api.OpReturn, "", byte8(n)) }
	brk := expr(api.OpBreak, "")
	list := []evaluated{
		{try(byte8("1"), push("2"), no), "value U8 1", 2, ""}, {try(byte8("1"), no, push("9")), "value U8 1", 5, "9"}, {try(fail(), byte8("2"), push("9")), "value U8 2", 6, "9"}, {try(fail(), no, push("9")), "value None", 5, "9"}, {try(fail(), no, no), "value None", 2, ""}, {try(fail(), fail(), push("9")), "error", 6, "9"}, {try(fail(), fail(), no), "error", 3, ""},
		{try(ret("1"), push("2"), push("9")), "return U8 1", 0, "9"}, {try(brk, push("2"), push("9")), "break", 0, "9"}, {try(expr(api.OpContinue, ""), push("2"), push("9")), "continue", 0, "9"}, {try(fail(), ret("3"), push("9")), "return U8 3", 0, "9"},
		{try(byte8("1"), no, fail()), "error", 3, ""}, {try(fail(), byte8("2"), fail()), "error", 4, ""}, {try(ret("1"), no, ret("2")), "return U8 2", 0, ""}, {try(fail(), fail(), brk), "break", 4, ""}, {try(ret("1"), no, brk), "break", 0, ""},
		{try(local("u"), push("2"), push("9")), "wrong 192", 2, ""}, {try(fail(), local("u"), push("9")), "wrong 192", 3, ""}, {try(no, push("2"), push("9")), "wrong 2", 2, ""}, {try(lit(strings.Repeat("x", 20001)+": String"), push("2"), push("9")), "empty 16", 2, ""},
		{try(try(fail(), fail(), push("1")), push("2"), push("3")), "value None", 0, "1 2 3"}, {try(seq(push("1"), fail(), push("2")), push("3"), no), "value None", 0, "1 3"}, {try(call("apply", this(), lit("7: USize")), byte8("4"), no), "value U8 4", 0, ""},
		{expr(api.OpWhile, "", yes(), try(brk, no, push("9")), no), "value None", 0, "9"}, {try(call("add_partial", byte8("250"), byte8("10")), byte8("1"), no), "value U8 1", 0, ""}, {try(call("risky", makes("create: main.Cell"), byte8("0")), byte8("1"), no), "value U8 1", 0, ""},
	}
	testEval(t, pony.Program(text), list)
}

func TestValues(t *testing.T) {
	tuple := func(l ...api.Expr) api.Expr { return expr(api.OpTuple, "", l...) }
	item := func(s string, x api.Expr) api.Expr { return expr(api.OpItem, s, x) }
	is := func(a, b api.Expr) api.Expr { return expr(api.OpIs, "", a, b) }
	var many []api.Expr
	for i := range 70 {
		many = append(many, byte8(strconv.Itoa(i)))
	}
	pair := tuple(byte8("1"), tuple(yes(), local("x")))
	testEval(t, pony.Program(text), []evaluated{
		{tuple(byte8("1"), yes()), "value (U8 1, true)", 3, ""}, {pair, "value (U8 1, (true, U8 5))", 5, ""}, {tuple(push("1"), fail(), push("2")), "error", 0, "1"}, {item("69", tuple(many...)), "value U8 69", 0, ""},
		{item("0", pair), "value U8 1", 6, ""}, {item("1", pair), "value (true, U8 5)", 6, ""}, {item("2", pair), "wrong 3", 6, ""}, {item("-1", pair), "wrong 3", 0, ""}, {item("", pair), "wrong 3", 0, ""}, {item("x", pair), "wrong 3", 0, ""}, {item("01", pair), "wrong 3", 0, ""}, {item("+1", pair), "wrong 3", 0, ""},
		{item("99999999999999999999", pair), "wrong 3", 0, ""}, {item("0", byte8("1")), "wrong 11", 2, ""}, {item("x", byte8("1")), "wrong 11", 2, ""}, {item("0", fail()), "error", 2, ""}, {item("0", this()), "wrong 11", 2, ""},
		{is(local("x"), byte8("5")), "value true", 3, ""}, {is(local("x"), byte8("6")), "value false", 3, ""}, {is(local("x"), lit("5: U16")), "value false", 3, ""}, {is(this(), this()), "value true", 3, ""}, {is(lit("a: String"), lit("a: String")), "value false", 3, ""}, {is(pair, pair), "value true", 11, ""}, {is(tuple(this(), yes()), tuple(this(), not())), "value false", 7, ""},
		{is(fail(), push("1")), "error", 2, ""}, {is(push("1"), fail()), "error", 0, "1"}, {expr(api.OpUnit, ": main.Maths val"), "value main.Maths", 1, ""}, {expr(api.OpUnit, ": Nope val"), "value ?", 1, ""}, {expr(api.OpUnit, ": Env val"), "value ?", 1, ""},
		{expr(api.OpRecover, ": this iso", local("x")), "value U8 5", 2, ""}, {expr(api.OpRecover, ": this iso", fail()), "error", 2, ""}, {expr(api.OpRecover, ": this val", expr(api.OpVar, "y: U8 val", byte8("1"))), "value None; x=U8 5; u=none; y=U8 1", 3, ""},
	})
}

// TestShapes: how many Kids and Types an operation has is asked ahead of all but the fuel.
func TestShapes(t *testing.T) {
	w := begun(t, pony.Program(text))
	few := map[int][4]int{ // Kids from and to, Types from and to
		api.OpLit: {0, 0, 1, 1}, api.OpLocal: {0, 0, 0, 0}, api.OpThis: {0, 0, 0, 0}, api.OpGet: {1, 1, 0, 0}, api.OpSet: {2, 2, 0, 0}, api.OpVar: {0, 1, 1, 1}, api.OpLet: {0, 1, 1, 1}, api.OpAssign: {1, 1, 0, 0}, api.OpConsume: {0, 0, 0, 0}, api.OpSeq: {0, 9, 0, 0},
		api.OpIf: {3, 3, 0, 0}, api.OpWhile: {3, 3, 0, 0}, api.OpMatch: {1, 9, 0, 0}, api.OpCase: {2, 2, 1, 1}, api.OpTry: {3, 3, 0, 0}, api.OpError: {0, 0, 0, 0}, api.OpReturn: {0, 1, 0, 0}, api.OpBreak: {0, 0, 0, 0}, api.OpContinue: {0, 0, 0, 0}, api.OpCall: {1, 9, 0, 9},
		api.OpNew: {0, 9, 1, 9}, api.OpRecover: {1, 1, 1, 1}, api.OpTuple: {2, 9, 0, 0}, api.OpItem: {1, 1, 0, 0}, api.OpIs: {2, 2, 0, 0}, api.OpUnit: {0, 0, 1, 1},
	}
	for op := 1; op <= api.OpLast; op++ {
		for kids := range 6 {
			for types := range 4 {
				e := api.Expr{Op: op, Text: "x", Types: pony.Types("None val", "None val", "U8 val")[:types]}
				for range kids {
					e.Kids = append(e.Kids, expr(api.OpReturn, ""))
				}
				s := few[op]
				right := kids >= s[0] && kids <= s[1] && types >= s[2] && types <= s[3] && op != api.OpCase
				o := Eval(w, 1, act(1), e, nil, 10)
				isForm := o.Kind == Wrong && o.Code == api.ErrForm && o.Used == 1
				if right == isForm && !(op == api.OpMatch && kids > 1) {
					t.Errorf("the operation %d with %d Kids and %d Types: %s, used %d", op, kids, types, told(w, o), o.Used)
				}
				if o := Eval(w, 1, act(1), e, nil, 0); o.Kind != Empty || o.Code != api.ErrSteps {
					t.Errorf("the operation %d without fuel: %s", op, told(w, o))
				}
			}
		}
	}
}

// TestEval: its arguments.
func TestEval(t *testing.T) {
	w := begun(t, pony.Program(text))
	if o := Eval(nil, 1, act(1), no, locals("x", u8(1)), 10); told(w, o) != "wrong 1; x=U8 1" || o.Used != 0 {
		t.Errorf("nil: %v", o)
	}
	deep, wide := seq(), seq(make([]api.Expr, 0)...)
	for range 99 {
		deep = seq(deep)
	}
	for range 3999 {
		wide.Kids = append(wide.Kids, seq())
	}
	for i, c := range []struct {
		e    api.Expr
		fuel int
		want string
		used int
	}{
		{deep, 1000, "value None; x=U8 1", 100}, {seq(deep), 1000, "wrong 2; x=U8 1", 0}, {seq(deep), 0, "wrong 2; x=U8 1", 0}, {wide, 10000, "value None; x=U8 1", 4000}, {seq(wide), 10000, "wrong 2; x=U8 1", 0}, {seq(append(wide.Kids, no)...), 10000, "wrong 2; x=U8 1", 0},
		{api.Expr{Kids: []api.Expr{deep}}, 10, "wrong 2; x=U8 1", 0}, {yes(), -1, "empty 10; x=U8 1", 0}, {yes(), 1 << 60, "value true; x=U8 1", 1}, {yes(), -1 << 60, "empty 10; x=U8 1", 0},
	} {
		if o := Eval(w, 1, act(1), c.e, locals("x", u8(1)), c.fuel); told(w, o) != c.want || o.Used != c.used {
			t.Errorf("%d: %s, used %d", i, told(w, o), o.Used)
		}
	}
	l := locals("a", u8(1), "b", u8(2), "a", u8(3), "c", u8(4), "b", u8(5), "", u8(6))
	if o := Eval(w, 1, act(1), local("a"), l, 10); told(w, o) != "value U8 3; a=U8 3; c=U8 4; b=U8 5; =U8 6" {
		t.Error(told(w, o))
	}
	for i, e := range []api.Expr{seq(deep), seq(wide)} { // refused, with those that were handed in
		if o := Eval(w, 1, act(1), e, l, 10); told(w, o) != "wrong 2; a=U8 3; c=U8 4; b=U8 5; =U8 6" || o.Used != 0 {
			t.Errorf("%d: %s, used %d", i, told(w, o), o.Used)
		}
		if o := Eval(w, 1, act(1), e, nil, 10); told(w, o) != "wrong 2" {
			t.Errorf("%d without local variables: %s", i, told(w, o))
		}
	}
	if o := Eval(w, 1, act(1), assign("b", byte8("9")), l, 10); told(w, o) != "value U8 5; a=U8 3; c=U8 4; b=U8 9; =U8 6" || l[4].Value.Lo != 5 || l[1].Value.Lo != 2 {
		t.Error(told(w, o), l)
	}
}

// TestLimits: what has no room ends an evaluation as fuel does.
func TestLimits(t *testing.T) {
	p := pony.Program(text)
	s := begun(t, p).State()
	full := s
	full.Cells = append(full.Cells, make([]api.Cell, api.MaxCells-len(s.Cells))...)
	crowd := s
	crowd.Actors = append(crowd.Actors, make([]world.Actor, api.MaxActors-len(s.Actors))...)
	busy := s
	busy.Actors = append([]world.Actor(nil), s.Actors...)
	busy.Actors[0].Mail = make([]api.Message, api.MaxMail)
	chain := func(n int) world.State { // of cells, the last one is the first object
		x := s
		x.Cells = append([]api.Cell(nil), s.Cells...)
		for range n {
			x.Cells = append(x.Cells, api.Cell{Type: "main.Cell", Owner: 1, Fields: []api.Value{u8(1), obj(len(x.Cells) - 1)}})
		}
		return x
	}
	last := func(x world.State) api.Value { return obj(len(x.Cells) - 1) }
	goes := call("go", local("a"), local("y"))
	for i, c := range []struct {
		s    world.State
		e    api.Expr
		y    api.Value
		want string
	}{
		{full, lit("x: String"), u8(1), "empty 8"}, {full, makes("create: main.Cell"), u8(1), "empty 8"}, {full, makes("create: Array[U8 val]"), u8(1), "empty 8"}, {full, call("string", byte8("1")), u8(1), "empty 8"}, {crowd, makes("create: main.Act", byte8("1")), u8(1), "empty 8"}, {busy, goes, u8(1), "empty 8"}, {busy, makes("create: main.Act", byte8("1")), u8(1), "empty 8"},
		{s, seq(expr(api.OpVar, "t: String val", lit(strings.Repeat("x", 15000)+": String")), call("add", local("t"), local("t"))), u8(1), "empty 16"}, {chain(101), goes, last(chain(101)), "empty 9"}, {chain(50), goes, last(chain(50)), "value None"}, {s, goes, obj(77), "wrong 190"}, {s, call("go", local("a"), expr(api.OpTuple, "", byte8("1"), byte8("2"))), u8(1), "value None"},
		{full, expr(api.OpTry, "", lit("x: String"), yes(), yes()), u8(1), "empty 8"}, {crowd, makes("create: main.Act"), u8(1), "wrong 4"},
	} {
		w := loaded(t, c.s)
		o := Eval(w, 1, act(1), c.e, locals("a", act(2), "y", c.y), 100)
		o.Locals = nil
		if got := told(w, o); got != c.want {
			t.Errorf("%d: %s, not %s", i, got, c.want)
		}
	}
}
