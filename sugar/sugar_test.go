package sugar

import (
	"reflect"
	"regexp"
	"slices"
	"strconv"
	"strings"
	"testing"

	"hackamore/api"
	"hackamore/format"
	"hackamore/internal/sample"
	"hackamore/parser"
	"hackamore/syntax"
)

func parse(t *testing.T, s string) api.Node {
	t.Helper()
	n, at, e := parser.Parse(s)
	if e != api.OK {
		t.Fatalf("%s: error %d at %d", s, e, at)
	}
	return n
}

// shown returns the canonical text of a tree.
func shown(t *testing.T, n api.Node) string {
	t.Helper()
	s, e := format.Text(n)
	if e != api.OK {
		s, _ = syntax.Text(n)
		t.Fatalf("%s: no text, error %d", s, e)
	}
	return s
}

// check checks that a module is rewritten to another one.
func check(t *testing.T, flags []string, from, to string) {
	t.Helper()
	want := parse(t, to)
	got, path, e := Module(parse(t, from), flags)
	if e != api.OK || len(path) > 0 || !syntax.Equal(got, want) {
		t.Errorf("%s\nerror %d at %v\n%s\nwant\n%s", from, e, path, shown(t, got), shown(t, want))
	}
	if e == api.OK && !IsPlain(got) {
		t.Errorf("%s\nis rewritten to what is not plain", from)
	}
}

const head = "class C\n  var n: U32\n  let o: C\n  new create() => this.n = 0\n  fun g(a: U32, b: U32 = 2): U32 => a\n  fun h()\n  fun f(x: U32, y: C): U32 =>\n    "
const plainHead = "class C\n  var n: U32\n  let o: C\n  new create() => this.n = 0\n  fun g(a: U32, b: U32): U32 => a\n  fun h()\n  fun f(x: U32, y: C): U32 =>\n    "

// checkBodies checks what bodies of a method of a class are rewritten to; behind two bars stand other entities.
func checkBodies(t *testing.T, want map[string]string) {
	t.Helper()
	for from, to := range want {
		others := ""
		if body, more, ok := strings.Cut(to, " || "); ok {
			to, others = body, "\n"+more
		}
		check(t, []string{"on", "also"}, head+from, plainHead+to+others)
	}
}

func TestNamesAndOperators(t *testing.T) {
	checkBodies(t, map[string]string{
		"x": "x", "n": "this.n", "C": "C", "z": "z", "this.n": "this.n", "y.n": "y.n", "_": "_", "x; n; z": "x; this.n; z", "n = x": "this.n = x", "x = n": "x = this.n", "z = 1": "z = 1", "y.n = n": "y.n = this.n", "C = 1": "C = 1",
		"a' = b' = n": "a' = b' = this.n", "let n: U8 = n; n": "let n: U8 = this.n; n", "n; let n: U8; n": "this.n; let n: U8; n", "(let n: U8, n)": "(let n: U8, n)", "let k: U8 = (let n: U8 = n; n); n": "let k: U8 = (let n: U8 = this.n; n); n",
		"x + n": "x.add(this.n)", "x - 1": "x.sub(1)", "x * 1": "x.mul(1)", "x / 1": "x.div(1)", "x % 1": "x.rem(1)", "x << 1": "x.shl(1)", "x >> 1": "x.shr(1)", "x == 1": "x.eq(1)", "x != 1": "x.ne(1)", "x < 1": "x.lt(1)", "x <= 1": "x.le(1)",
		"x > 1": "x.gt(1)", "x >= 1": "x.ge(1)", "x +? 1": "x.add_partial(1)?", "x -? 1": "x.sub_partial(1)?", "x *? 1": "x.mul_partial(1)?", "x /? 1": "x.div_partial(1)?", "x %? 1": "x.rem_partial(1)?", "x xor y": "x.op_xor(y)", "not x": "x.op_not()", "-x": "x.neg()",
		"x is y": "x is y", "x isnt n": "x isnt this.n", "(x is y) is n": "(x is y) is this.n", "x + 1 + n": "x.add(1).add(this.n)", "-1": "1.neg()",
		"x and y": "if x then y else false end", "x or y": "if x then true else y end", "if x and not n then y end": "if (if x then this.n.op_not() else false end) then y end", "x and y and n": "if (if x then y else false end) then this.n else false end",
		"return n": "return this.n", "(error, break)": "(error, break)", "consume n": "consume this.n", "recover n end": "recover this.n end", "try n else n then n end": "try this.n else this.n then this.n end", "while n do n else n end": "while this.n do this.n else this.n end",
		"1.5; \"s\"; true": "1.5; \"s\"; true",
	})
}

// TestScopes checks up to where a Decl hides a field.
func TestScopes(t *testing.T) {
	checkBodies(t, map[string]string{
		"if let n: U8 then n else n end; n":                            "if let n: U8 then n else n end; this.n",
		"if x then let n: U8; n else n end; n":                         "if x then let n: U8; n else this.n end; this.n",
		"if x then x elseif let n: U8 then n else n end; n":            "if x then x elseif let n: U8 then n else n end; this.n",
		"while (let n: U8; x) do n else n end; n":                      "while (let n: U8; x) do n else n end; this.n",
		"while x do let n: U8 else n end; n":                           "while x do let n: U8 else this.n end; this.n",
		"try let n: U8 else n then n end; n":                           "try let n: U8 else this.n then this.n end; this.n",
		"recover let n: U8; n end; n":                                  "recover let n: U8; n end; this.n",
		"match let n: U8 | let k: U8 if n => n else n end; n":          "match let n: U8 | let k: U8 if n => n else n end; this.n",
		"match x | let n: U8 if n => n | let k: U8 => n else n end; n": "match x | let n: U8 if n => n | let k: U8 => this.n else this.n end; this.n",
		"match x | let k: U8 => let n: U8 else n end":                  "match x | let k: U8 => let n: U8 else this.n end",
		"match x | let k: U8 if let n: U8 => n end":                    "match x | let k: U8 if let n: U8 => n end",
		"ifdef on then let n: U8 end; n":                               "let n: U8; n",
		"x.a(let n: U8 = n, n)":                                        "x.a(let n: U8 = this.n, n)",
		"for n: U8 in n do n else n end; n":                            "let _1: Iterator[U8] ref = this.n; while _1.has_next() do let n: U8 = try _1.next()? else break end; n else this.n end; this.n",
		"for k: U8 in (let n: U8; x) do n else n end; n":               "let _1: Iterator[U8] ref = (let n: U8; x); while _1.has_next() do let k: U8 = try _1.next()? else break end; n else n end; this.n",
		"repeat let n: U8; n until n end; n":                           "var _1: Bool = true; while if _1 then _1 = false; true else this.n.op_not() end do let n: U8; n end; this.n",
		"with n: U8 = n do n end; n":                                   "let n: U8 = this.n; try n else error then n.dispose() end; n",
		"with k: U8 = x do let n: U8 end; n":                           "let k: U8 = x; try let n: U8 else error then k.dispose() end; this.n",
		"(let n: U8, let m: U8) = n; n":                                "let _1: (U8, U8) = this.n; let n: U8 = _1._1; let m: U8 = _1._2; _1; n",
		"x and (let n: U8; n); n":                                      "if x then let n: U8; n else false end; n",
		"let N: U8 = x; N":                                             "let N: U8 = x; N",
	})
}

func TestCalls(t *testing.T) {
	checkBodies(t, map[string]string{
		"D(1)": "D.create(1)", "D[U8](1)": "D[U8].create(1)", "D.make(1)": "D.make(1)", "D[U8].make(1)": "D[U8].make(1)", "x(1)": "x.apply(1)", "n(1)": "this.n.apply(1)", "z(1)": "this.z(1)", "z(1)?": "this.z(1)?", "D(1)?": "D.create(1)?", "x()?": "x.apply()?",
		"x(1)(2)": "x.apply(1).apply(2)", "(x, y)(1)": "(x, y).apply(1)", "this(1)": "this.apply(1)", "1(2)": "1.apply(2)", "y.a(n)": "y.a(this.n)", "y.a[U8](n)": "y.a[U8](this.n)", "z[U8](1)": "this.z[U8](1)", "x[U8](1)": "x[U8].apply(1)", "n[U8](1)": "this.n[U8].apply(1)",
		"z[U8]": "this.z[U8]", "x[U8]": "x[U8]", "n[U8]": "this.n[U8]", "D[U8]": "D[U8]", "y.a[U8]": "y.a[U8]", "(if x then y end)(1)": "(if x then y end).apply(1)", "D[U8][U8](1)": "D[U8][U8].apply(1)",
		"g(1)": "this.g(1, 2)", "this.g(1)": "this.g(1, 2)", "g(1, 3)": "this.g(1, 3)", "g(where b = n, a = x)": "this.g(x, this.n)", "g(1 where b = 4)": "this.g(1, 4)", "g(where a = 5)": "this.g(5, 2)", "y.g(1)": "y.g(1)", "g[U8](1)": "this.g[U8](1)", "this.g[U8](1)": "this.g[U8](1)",
		"g(g(1))": "this.g(this.g(1, 2), 2)", "h()": "this.h()", "let g: C; g(1)": "let g: C; g.apply(1)", "let g: C; this.g(1)": "let g: C; this.g(1, 2)", "C.g(1)": "C.g(1, 2)",
	})
}

// TestKnown checks calls of known methods of several entities, and default values.
func TestKnown(t *testing.T) {
	const to = "class D\n  fun m(a: U8, b: U8, c: U8)\n  new create(a: U8)\n"
	for from, want := range map[string]string{
		"class D fun m(a: U8, b: U8 = 2, c: U8 = n + k(3)) new create(a: U8 = 1) class E var n: U8 var k: E new create() => D":                                   to + "class E var n: U8 var k: E new create() => D",
		"class D fun m(a: U8, b: U8 = 2, c: U8 = n + k(3)) new create(a: U8 = 1) class E var n: U8 var k: E new create() => D()":                                 to + "class E var n: U8 var k: E new create() => D.create(1)",
		"class D fun m(a: U8, b: U8 = 2, c: U8 = n + k(3)) new create(a: U8 = 1) class E var n: U8 var k: E new create(b: U8) => D.m(b)":                         to + "class E var n: U8 var k: E new create(b: U8) => D.m(b, 2, n.add(this.k(3)))",
		"class D fun m(a: U8, b: U8 = 2, c: U8 = n + k(3)) new create(a: U8 = 1) class E var n: U8 var k: E new create(b: U8) => D[U8]()":                        to + "class E var n: U8 var k: E new create(b: U8) => D[U8].create()",
		"class D fun m(a: U8, b: U8 = 2, c: U8 = n + k(3)) new create(a: U8 = 1) class E var n: U8 var k: E new create(b: U8) => D.m(where c = 1, a = 2, b = b)": to + "class E var n: U8 var k: E new create(b: U8) => D.m(2, b, 1)",
		"class D fun m(a: U8, b: U8 = D(), c: U8 = (let x: U8 = 1; x + D.m(1))) new create(a: U8 = 1) class E new create(x: U8) => D.m(x)":                       to + "class E new create(x: U8) => D.m(x, D.create(), (let x: U8 = 1; x.add(D.m(1))))",
	} {
		check(t, nil, from, want)
	}
	check(t, nil, "class C let m: U8 fun m(a: U8 = 1) => m(); this.m() new create()", "class C let m: U8 fun m(a: U8) => this.m.apply(); this.m() new create()")
	check(t, nil, "class C fun m(a: U8 = 1) fun m(b: U8, c: U8 = 2) fun f() => m() class C fun m(z: U8, y: U8) fun f() => m(1, 2); C.m()",
		"class C new create() => this fun m(a: U8) fun m(b: U8, c: U8) fun f() => this.m(1) class C new create() => this fun m(z: U8, y: U8) fun f() => this.m(1, 2); C.m(1)")
	check(t, nil, "class D fun m(a: U8, b: C = {(x: U8 = 3): U8 => apply() }) new create() class E new create() => D.m(1)",
		"class D fun m(a: U8, b: C) new create() class E new create() => D.m(1, _O1.create()) class _O1 new create() => this fun apply(x: U8): U8 => this.apply()")
}

func TestFields(t *testing.T) {
	for from, to := range map[string]string{
		"class C":                         "class C new create() => this",
		"class C fun f()":                 "class C new create() => this fun f()",
		"actor C let a: U8 = 1":           "actor C let a: U8 new create() => this.a = 1; this",
		"class C let a: U8":               "class C let a: U8",
		"class C let a: U8 = 1 let b: U8": "class C let a: U8 let b: U8",
		"class C let a: U8 = 1 let b: U8 new create() => b = a":              "class C let a: U8 let b: U8 new create() => this.a = 1; this.b = this.a",
		"class C let a: U8 = 1 new create() new make(a: U8) => x; y fun f()": "class C let a: U8 new create() => this.a = 1; this new make(a: U8) => this.a = 1; x; y fun f()",
		"class C new create()":               "class C new create()",
		"primitive C":                        "primitive C",
		"trait C fun f()":                    "trait C fun f()",
		"trait C let a: U8 = 1 new create()": "trait C let a: U8 new create() => this.a = 1; this",
		"primitive C let a: U8 = 1":          "primitive C let a: U8",
		"class C let a: U8 = b let b: U8 = (let x: U8 = a; x) let c: U8 = x new create(x: U8, a: U8) => x": "class C let a: U8 let b: U8 let c: U8 new create(x: U8, a: U8) => this.a = this.b; this.b = (let x: U8 = this.a; x); this.c = x; x",
		"class C let a: U8 = f() fun f(x: U8 = 2): U8 => x":                                                "class C let a: U8 new create() => this.a = this.f(2); this fun f(x: U8): U8 => x",
		"class C let a: {()} = {() => a } new create() new make[A]()":                                      "class C let a: _O1 new create() => this.a = _O2.create(); this new make[A]() => this.a = _O3[A].create(); this interface _O1 fun apply() class _O2 new create() => this fun apply() => a class _O3[A] new create() => this fun apply() => a",
		"use \"p\" if a and not b class C new create() type T is (A | B)":                                  "use \"p\" if a and not b class C new create() type T is (A | B)",
	} {
		check(t, nil, from, to)
	}
	bounds, params := node(syntax.Bounds, ""), node(syntax.Params, "")
	field := func(name, value string) api.Node {
		return node(syntax.Field, name, word("let"), namedType("U8", ""), node(syntax.IntLit, value))
	}
	method := node(syntax.Method, "f", word("fun"), word(""), bounds, params, nothing(), word(""), nothing())
	n := node(syntax.Module, "", node(syntax.Entity, "C", word("class"), word(""), bounds, nothing(), field("a", "1"), method, field("b", "2")))
	got, _, e := Module(n, nil)
	if want := parse(t, "class C let a: U8 let b: U8 new create() => this.a = 1; this.b = 2; this fun f()"); e != api.OK || !syntax.Equal(got, want) {
		t.Errorf("a field behind a method: %s, error %d", shown(t, got), e)
	}
}

func TestAssignments(t *testing.T) {
	checkBodies(t, map[string]string{
		"x(1) = 2": "x.update(1, 2)", "n(1, x) = n": "this.n.update(1, x, this.n)", "z(1) = 2": "z.update(1, 2)", "y.a(1) = 2": "y.a.update(1, 2)", "D(1) = 2": "D.update(1, 2)", "z[U8](1) = 2": "this.z[U8].update(1, 2)", "x(1)(2) = 3": "x.apply(1).update(2, 3)",
		"x(1)? = 2": "x.update(1, 2)", "x()? = 2": "x.update(2)", "n(1)? = 2": "this.n.update(1, 2)", "x.y(1)? = 2": "x.y.update(1, 2)", "y.g(1)? = 2": "y.g.update(1, 2)", "D(1)? = 2": "D.update(1, 2)", "z(1)? = 2": "z.update(1, 2)", "z[U8](1)? = 2": "this.z[U8].update(1, 2)", "this(1)? = 2": "this.update(1, 2)",
		"x(1)?(2) = 3": "x.apply(1)?.update(2, 3)", "x(1)?(2)? = 3": "x.apply(1)?.update(2, 3)", "x(1)(2)? = 3": "x.apply(1).update(2, 3)", "x(y.a()?)? = n()?": "x.update(y.a()?, this.n.apply()?)", "x.>a()?(1)? = 2": "(x.a()?; x).update(1, 2)", "x(1)? = y(2)? = 3": "x.update(1, y.update(2, 3))", "let _: D = x(1)? = 2": "let _: D = x.update(1, 2)",
		"y.g(1) = 2": "y.g.update(1, 2)", "this.n(1) = 2": "this.n.update(1, 2)", "x = y = 1": "x = y = 1", "n = o = y": "this.n = this.o = y", "let g: C; g(1) = 2": "let g: C; g.update(1, 2)",
		"((let a: A, let b: B), var c: C) = {() => 1 }": "let _1: ((A, B), C) = _O1.create(); let _2: (A, B) = _1._1; let a: A = _2._1; let b: B = _2._2; _2; var c: C = _1._2; _1 || class _O1 new create() => this fun apply() => 1",
		"z = ((let a: A, let b: B) = x)":                "z = (let _1: (A, B) = x; let a: A = _1._1; let b: B = _1._2; _1)",
		"(let a: {()}, let b: B) = [as U8:]":            "let _1: (_O1, B) = (let _2: Array[U8] ref = Array[U8].create(); consume _2); let a: _O2 = _1._1; let b: B = _1._2; _1 || interface _O1 fun apply() interface _O2 fun apply()",
	})
}

func TestBlocks(t *testing.T) {
	checkBodies(t, map[string]string{
		"x as U8": "match x | let _1: U8 => consume _1 else error end", "(x as U8) as (A | B)": "match (match x | let _2: U8 => consume _2 else error end) | let _1: (A | B) => consume _1 else error end",
		"[as U8: x; n]": "let _1: Array[U8] ref = Array[U8].create(); _1.push(x); _1.push(this.n); consume _1", "[as U8:]": "let _1: Array[U8] ref = Array[U8].create(); consume _1", "x([as {()}:])": "x.apply((let _1: Array[_O1] ref = Array[_O2].create(); consume _1)) || interface _O1 fun apply() interface _O2 fun apply()",
		"repeat x until y end": "var _1: Bool = true; while if _1 then _1 = false; true else y.op_not() end do x end", "repeat x as A until y as B end": "var _1: Bool = true; while if _1 then _1 = false; true else (match y | let _3: B => consume _3 else error end).op_not() end do match x | let _2: A => consume _2 else error end end",
		"for k: U8 in x do k end": "let _1: Iterator[U8] ref = x; while _1.has_next() do let k: U8 = try _1.next()? else break end; k end", "x = (for k: {()} in x do k else y end)": "x = (let _1: Iterator[_O1] ref = x; while _1.has_next() do let k: _O2 = try _1.next()? else break end; k else y end) || interface _O1 fun apply() interface _O2 fun apply()",
		"with k: U8 = x do k; y end": "let k: U8 = x; try k; y else error then k.dispose() end",
		"ifdef on then x else n end": "x", "ifdef off then x else n end": "this.n", "ifdef off then x end": "None", "ifdef on and also then x; y end; z": "x; y; z", "ifdef not on or false then x end": "None", "ifdef true then x end": "x", "ifdef off then x.>f else y end": "y",
		"match x | A => n | B[U8] => x | let _: U8 => y end":                                        "match x | let _1: A => this.n | let _2: B[U8] => x | let _: U8 => y end",
		"match x | (let a: A, let b: B) if a => b | (let n: A, (let c: C, let d: D)) if n => n end": "match x | let _1: (A, B) if (let a: A = _1._1; let b: B = _1._2; a) => let a: A = _1._1; let b: B = _1._2; b | let _2: (A, (C, D)) if (let n: A = _2._1; let _3: (C, D) = _2._2; let c: C = _3._1; let d: D = _3._2; _3; n) => let n: A = _2._1; let _4: (C, D) = _2._2; let c: C = _4._1; let d: D = _4._2; _4; n end",
		"match x as A | B => 1 else y as C end":                                                     "match (match x | let _1: A => consume _1 else error end) | let _3: B => 1 else match y | let _2: C => consume _2 else error end end",
		"match x | (let a: A, let b: B) => 1; 2 end":                                                "match x | let _1: (A, B) => let a: A = _1._1; let b: B = _1._2; 1; 2 end",
		"x.>a()": "x.a(); x", "x.>a(1)?.>b(n)": "x.a(1)?; x.b(this.n); x", "this.>g(1)": "this.g(1, 2); this", "this.>g(1).>g(where b = 1, a = 2)": "this.g(1, 2); this.g(2, 1); this", "z = x.>a()": "z = (x.a(); x)", "this.>z()": "this.z(); this", "x.>a().b()": "(x.a(); x).b()", "x.>a(y.>b())": "x.a((y.b(); y)); x",
		"let _1: U8 = x as A": "let _1: U8 = match x | let _2: A => consume _2 else error end", "\"_1\"; \"_O1\"; x as A; {() => 1 }": "\"_1\"; \"_O1\"; match x | let _2: A => consume _2 else error end; _O2.create() || class _O2 new create() => this fun apply() => 1",
	})
}

func TestPartial(t *testing.T) {
	const plain = "class C[A] new create(a: U8, b: U8) fun val m(p: A, q: U8, r: {()}): U8 ? => 1 be s(p: U8) fun v() "
	const made = "interface _O1[A] fun apply() "
	from := func(s string) string {
		return strings.Replace(strings.Replace(plain, "q: U8", "q: U8 = 7", 1), "b: U8", "b: U8 = 1", 1) + "fun f[B](x: U8) => " + s
	}
	to := func(s string) string { return strings.Replace(plain, "{()}", "_O1[A]", 1) + "fun f[B](x: U8) => " + s }
	check(t, nil, from("this~m(x)"), to("_O2[A, B].create(this, x)")+made+
		"class _O2[A, B] let _this: C[A] val let _1: A new create(_this: C[A] val, _1: A) => this._this = _this; this._1 = _1; this fun apply(q: U8, r: _O3[A, B]): U8 ? => this._this.m(this._1, q, r) interface _O3[A, B] fun apply()")
	check(t, nil, from("C~m(where r = x, p = 1)"), to("_O2[A, B].create(x, 1)")+made+
		"class _O2[A, B] let _1: _O3[A, B] let _2: A new create(_1: _O4[A, B], _2: A) => this._1 = _1; this._2 = _2; this fun apply(q: U8): U8 ? => C.m(this._2, q, this._1) interface _O3[A, B] fun apply() interface _O4[A, B] fun apply()")
	check(t, nil, from("this~s()"), to("_O2[A, B].create(this)")+made+
		"class _O2[A, B] let _this: C[A] tag new create(_this: C[A] tag) => this._this = _this; this fun apply(p: U8) => this._this.s(p)")
	check(t, nil, from("this~v()"), to("_O2[A, B].create(this)")+made+
		"class _O2[A, B] let _this: C[A] box new create(_this: C[A] box) => this._this = _this; this fun apply() => this._this.v()")
	check(t, nil, "primitive P fun m(a: U8, b: U8 = 1): U8 => a fun f(x: U8) => P~m(1, x)",
		"primitive P fun m(a: U8, b: U8): U8 => a fun f(x: U8) => _O1.create(1, x) class _O1 let _1: U8 let _2: U8 new create(_1: U8, _2: U8) => this._1 = _1; this._2 = _2; this fun apply(): U8 => P.m(this._1, this._2)")
	check(t, nil, "class C new create() fun f(x: U8) => object fun m(a: U8) => a fun k() => this~m(x) end",
		"class C new create() fun f(x: U8) => _O1.create(x) class _O1 let x: U8 new create(x: U8) => this.x = x; this fun m(a: U8) => a fun k() => _O2.create(this, this.x) class _O2 let _this: _O1 box let _1: U8 new create(_this: _O1 box, _1: U8) => this._this = _this; this._1 = _1; this fun apply() => this._this.m(this._1)")
}

func TestLiterals(t *testing.T) {
	checkBodies(t, map[string]string{
		"object end": "_O1.create() || class _O1 new create() => this", "object ref end": "_O1.create() || class _O1 new create() => this", "object val is I end": "recover val _O1.create() end || class _O1 is I new create() => this", "object iso fun f() => n end": "recover iso _O1.create() end || class _O1 new create() => this fun f() => n",
		"object tag be f() end": "_O1.create() || actor _O1 new create() => this be f()", "object fun f() => y; x; y end": "_O1.create(y, x) || class _O1 let y: C let x: U32 new create(y: C, x: U32) => this.y = y; this.x = x; this fun f() => this.y; this.x; this.y",
		"object let x: U8 = y.a() let k: A = x fun f(y: B) => x; y; k; g(1) end":                         "_O1.create(y) || class _O1 let y: C let x: U8 let k: A new create(y: C) => this.y = y; this.x = y.a(); this.k = this.x; this fun f(y: B) => this.x; y; this.k; this.g(1)",
		"object let k: A = (let x: U8; x) let l: A = x end":                                              "_O1.create(x) || class _O1 let x: U32 let k: A let l: A new create(x: U32) => this.x = x; this.k = (let x: U8; x); this.l = x; this",
		"object fun g(a: U8, b: U8 = 9) => g(1); this.g(where b = 2, a = 3); C.g(4) fun x() => x(1) end": "_O1.create(x) || class _O1 let x: U32 new create(x: U32) => this.x = x; this fun g(a: U8, b: U8) => this.g(1, 9); this.g(3, 2); C.g(4, 2) fun x() => this.x.apply(1)",
		"object fun f() => x = 1; consume x; x[U8]; x(1) = 2 end":                                        "_O1.create(x) || class _O1 let x: U32 new create(x: U32) => this.x = x; this fun f() => this.x = 1; consume this.x; this.x[U8]; this.x.update(1, 2)",
		"if x then let k: A = x end; object fun f() => k; let x: U8; x end":                              "if x then let k: A = x end; _O1.create() || class _O1 new create() => this fun f() => k; let x: U8; x", "object fun f() => k end; let k: A = x": "_O1.create(); let k: A = x || class _O1 new create() => this fun f() => k",
		"let x: {()} = y; object fun f() => x end":                        "let x: _O1 = y; _O2.create(x) || interface _O1 fun apply() class _O2 let x: _O3 new create(x: _O4) => this.x = x; this fun f() => this.x interface _O3 fun apply() interface _O4 fun apply()",
		"object let a: {()} = {() => 1 } fun f(): {()} => {() => 2 } end": "_O1.create() || class _O1 let a: _O2 new create() => this.a = _O3.create(); this fun f(): _O4 => _O5.create() interface _O2 fun apply() class _O3 new create() => this fun apply() => 1 interface _O4 fun apply() class _O5 new create() => this fun apply() => 2",
		"object fun f() => ifdef off then x else y end end":               "_O1.create(y) || class _O1 let y: C new create(y: C) => this.y = y; this fun f() => this.y",
		"object let a: A = x.>m() end":                                    "_O1.create(x) || class _O1 let x: U32 let a: A new create(x: U32) => this.x = x; this.a = (x.m(); x); this",
	})
	checkBodies(t, map[string]string{
		"{() => 1 }": "_O1.create() || class _O1 new create() => this fun apply() => 1", "{(k: U32): U32 ? => k + x } val": "recover val _O1.create(x) end || class _O1 let x: U32 new create(x: U32) => this.x = x; this fun val apply(k: U32): U32 ? => k.add(this.x)",
		"{() => x } iso": "recover iso _O1.create(x) end || class _O1 let x: U32 new create(x: U32) => this.x = x; this fun apply() => this.x", "{()(a: A = x, b: B = n) => a; y; b }": "_O1.create(x, this.n, y) || class _O1 let a: A let b: B let y: C new create(a: A, b: B, y: C) => this.a = a; this.b = b; this.y = y; this fun apply() => this.a; this.y; this.b",
		"{(a: U8 = 1) => apply(); x(1) }(2)": "_O1.create(x).apply(2) || class _O1 let x: U32 new create(x: U32) => this.x = x; this fun apply(a: U8) => this.apply(1); this.x.apply(1)", "{()(x: A = x) => x }": "_O1.create(x) || class _O1 let x: A new create(x: A) => this.x = x; this fun apply() => this.x",
		"{() => {() => y; x }; x }":                           "_O1.create(y, x) || class _O1 let y: C let x: U32 new create(y: C, x: U32) => this.y = y; this.x = x; this fun apply() => _O2.create(this.y, this.x); this.x class _O2 let y: C let x: U32 new create(y: C, x: U32) => this.y = y; this.x = x; this fun apply() => this.y; this.x",
		"{()(c: {(A): B} = {() => 1 }): {()} => {() => 2 } }": "_O1.create(_O6.create()) || class _O1 let c: _O4 new create(c: _O5) => this.c = c; this fun apply(): _O2 => _O3.create() interface _O2 fun apply() class _O3 new create() => this fun apply() => 2 interface _O4 fun apply(_a1: A): B interface _O5 fun apply(_a1: A): B class _O6 new create() => this fun apply() => 1",
		"{()(c: A = 1) => {() => c } }":                       "_O1.create(1) || class _O1 let c: A new create(c: A) => this.c = c; this fun apply() => _O2.create() class _O2 new create() => this fun apply() => c", "for k: U8 in x do {() => k } end": "let _1: Iterator[U8] ref = x; while _1.has_next() do let k: U8 = try _1.next()? else break end; _O1.create(k) end || class _O1 let k: U8 new create(k: U8) => this.k = k; this fun apply() => this.k",
		"{() => [as U8: x] }": "_O1.create(x) || class _O1 let x: U32 new create(x: U32) => this.x = x; this fun apply() => let _1: Array[U8] ref = Array[U8].create(); _1.push(this.x); consume _1",
	})
}

func TestBounds(t *testing.T) {
	check(t, nil, "class C[A: {(A): {()}} val] is {()} let a: {()} new create[B: {()}](x: {(B) ?} iso^) => {(y: A)(c: B = 1) => {() => x } } val",
		"class C[A: _O1[A] val] is _O3[A] let a: _O4[A] new create[B: _O5[A, B]](x: _O6[A, B] iso^) => recover val _O7[A, B].create(1, x) end "+
			"interface _O1[A: _O1[A] val] fun val apply(_a1: A): _O2[A] interface _O2[A: _O1[A] val] fun apply() interface _O3[A: _O1[A] val] fun apply() interface _O4[A: _O1[A] val] fun apply() "+
			"interface _O5[A: _O1[A] val, B: _O5[A, B]] fun apply() interface _O6[A: _O1[A] val, B: _O5[A, B]] fun apply(_a1: B) ? "+
			"class _O7[A: _O1[A] val, B: _O5[A, B]] let c: B let x: _O11[A, B] iso^ new create(c: B, x: _O12[A, B] iso^) => this.c = c; this.x = x; this fun val apply(y: A) => _O8[A, B].create(this.x) "+
			"class _O8[A: _O1[A] val, B: _O5[A, B]] let x: _O9[A, B] iso^ new create(x: _O10[A, B] iso^) => this.x = x; this fun apply() => this.x "+
			"interface _O9[A: _O1[A] val, B: _O5[A, B]] fun apply(_a1: B) ? interface _O10[A: _O1[A] val, B: _O5[A, B]] fun apply(_a1: B) ? interface _O11[A: _O1[A] val, B: _O5[A, B]] fun apply(_a1: B) ? interface _O12[A: _O1[A] val, B: _O5[A, B]] fun apply(_a1: B) ?")
	check(t, nil, "type T[A] is {(A): A} class C new create() fun f[B]() => object fun g[D](x: D) => {() => x } end class E new create() => {() => 1 }",
		"type T[A] is _O1[A] interface _O1[A] fun apply(_a1: A): A class C new create() fun f[B]() => _O2[B].create() class _O2[B] new create() => this fun g[D](x: D) => _O3[B, D].create(x) class _O3[B, D] let x: D new create(x: D) => this.x = x; this fun apply() => this.x class E new create() => _O4.create() class _O4 new create() => this fun apply() => 1")
	check(t, nil, "type T is {({(): {()}}): {()}}", "type T is _O1 interface _O1 fun apply(_a1: _O3): _O2 interface _O2 fun apply() interface _O3 fun apply(): _O4 interface _O4 fun apply()")
}

// refused has the error and the path of a module that is refused.
type refused struct {
	code api.Errno
	path []int
}

func checkRefused(t *testing.T, ahead string, want map[string]refused) {
	t.Helper()
	for s, w := range want {
		n, path, e := Module(parse(t, ahead+s), []string{"on"})
		if e != w.code || !slices.Equal(path, w.path) || e != api.OK && !reflect.DeepEqual(n, api.Node{}) {
			t.Errorf("%s: error %d at %v, want %d at %v", s, e, path, w.code, w.path)
		}
	}
}

func TestErrors(t *testing.T) {
	in := func(code api.Errno, path ...int) refused { return refused{code, append([]int{0, 9, 6}, path...)} }
	checkRefused(t, head, map[string]refused{
		"g()": in(ErrArgs), "g(1, 2, 3)": in(ErrArgs), "g(1 where a = 2)": in(ErrArgs), "g(1 where c = 2)": in(ErrArgs), "g(1 where b = 2, b = 3)": in(ErrArgs), "g(where b = 1)": in(ErrArgs), "h(1)": in(ErrArgs), "this.h(1)": in(ErrArgs), "C.h(1)": in(ErrArgs), "C(1)": in(ErrArgs), "g(g())": in(ErrArgs, 2), "g(x = g())": in(ErrArgs, 2, 1),
		"x.a(where b = 1)": in(ErrArgs), "z(where b = 1)": in(ErrArgs), "x(where b = 1)": in(ErrArgs), "g[U8](where a = 1)": in(ErrArgs), "D(where a = 1)": in(ErrArgs), "z(g() where b = 1)": in(ErrArgs), "z(g(), x.>f)": in(ErrArgs, 2), "g(1 where b = g())": in(ErrArgs, 3, 0), "g().h(where a = 1)": in(ErrArgs), "(let g: C; g(where a = 1))": in(ErrArgs, 1),
		"g(1) = 2": in(ErrAssign), "this.g(1) = 2": in(ErrAssign), "C.g(1) = 2": in(ErrAssign), "C(1) = 2": in(ErrAssign), "g(1)? = 2": in(ErrAssign), "C.g(1)? = 2": in(ErrAssign), "(x, y) = 1": in(ErrAssign), "(let a: A, x) = 1": in(ErrAssign), "(let a: A, (let b: B, x.y)) = g()": in(ErrAssign), "x(where a = 1) = 2": in(ErrArgs, 0, 2), "x(g(), 1 where a = g()) = g()": in(ErrArgs, 0, 2), "x(1 where a = g()) = g()": in(ErrArgs, 0, 3), "x(1) = g()": in(ErrArgs, 1), "x = (y = g())": in(ErrArgs, 1, 1),
		"match x | y => 1 end": in(ErrPattern, 2, 0), "match x | 1 => 1 end": in(ErrPattern, 2, 0), "match x | y[U8] => 1 end": in(ErrPattern, 2, 0), "match x | D.a[U8] => 1 end": in(ErrPattern, 2, 0), "match x | (let a: A, 1) => 1 end": in(ErrPattern, 2, 0), "match x | A => g() | y => 1 else x end": in(ErrArgs, 2, 2), "match x | A => 1 | y if g() => g() else g() end": in(ErrArgs, 1), "match g() | y => 1 end": in(ErrArgs, 0),
		"x.>f": in(ErrChain), "n.>f()": in(ErrChain, 0), "x.y.>f()": in(ErrChain, 0), "C.>f()": in(ErrChain, 0), "z.>f()": in(ErrChain, 0), "x.>f[U8]()": in(ErrChain, 0, 0), "x.>f(1) = 2": in(ErrChain, 0, 0), "x.>f(where a = 1)": in(ErrArgs), "this.>g()": in(ErrArgs), "x.>f(where a = 1).>k(where b = 1)": in(ErrArgs, 0, 0), "x.>f(g()).>k(where b = 1)": in(ErrArgs, 0, 0, 2), "x.>f().>k(where b = 1)": in(ErrArgs), "this.>h().>g()": in(ErrArgs), "n.>f(g())": in(ErrChain, 0), "g().>f()": in(ErrChain, 0), "x.>f(n.>k())": in(ErrChain, 2, 0),
		"this~g": in(ErrChain), "this~z()": in(ErrChain, 0), "this~create()": in(ErrChain, 0), "x~f()": in(ErrChain, 0), "D~f()": in(ErrChain, 0), "C~z()": in(ErrChain, 0), "C[U8]~g()": in(ErrChain, 0), "this~g[U8](1)": in(ErrChain, 0, 0), "this~g(1, 2, 3)": in(ErrArgs), "this~g(1 where a = 2)": in(ErrArgs), "this~g(where c = 2)": in(ErrArgs), "this~g(g())": in(ErrArgs, 2), "this~g(where b = g())": in(ErrArgs, 2, 0), "this~g(1) = 2": in(ErrChain, 0, 0),
		"object new create() end": in(api.ErrForm, 2), "object let a: A = C.g() fun f() => 1 new create() end": in(ErrArgs, 2, 2), "object fun k() => C.g() new create() end": in(ErrArgs, 2, 6), "object let a: A fun k() => 1 new create() => C.g() end": in(api.ErrForm, 4), "object fun k() => g(where a = 1) end": in(ErrArgs, 2, 6), "object fun k(a: A) => k() end": in(ErrArgs, 2, 6), "{() => x.>f() }": in(ErrChain, 4, 0), "{(a: A) => apply() }": in(ErrArgs, 4), "{()(a: A = g()) => C.g() }": in(ErrArgs, 4), "{()(a: A = g()) => 1 }": in(ErrArgs, 5, 1), "{() => this~g(1) }": in(ErrChain, 4, 0),
		"ifdef 1 then x end": in(api.ErrForm, 0), "ifdef on or (off and x.y) then x end": in(api.ErrForm, 0, 1, 1), "ifdef not not -on then x end": in(api.ErrForm, 0, 0, 0), "ifdef on then g() else x end": in(ErrArgs, 1), "ifdef off then x else g() end": in(ErrArgs, 2), "repeat x until g() end": in(ErrArgs, 1), "with a: A = x do g() end": in(ErrArgs, 2), "for a: A in x do 1 else g() end": in(ErrArgs, 3), "[as A: g()]": in(ErrArgs, 1), "g() as A": in(ErrArgs, 0), "1 + g()": in(ErrArgs, 1), "not g()": in(ErrArgs, 0), "x; g()": in(ErrArgs, 1),
	})
	checkRefused(t, "", map[string]refused{
		"class C fun f(a: U8 = n.>f()) fun g() => f()":                               {ErrChain, []int{0, 4, 3, 0, 1, 0}},
		"class C fun f(a: U8 = n.>f()) fun g() => x":                                 {api.OK, nil},
		"class C fun f(a: U8 = h()) fun h(b: U8) fun g() => f()":                     {api.OK, nil},
		"class C fun f(a: U8 = h(where b = 1)) fun h(b: U8) fun g() => f()":          {ErrArgs, []int{0, 4, 3, 0, 1}},
		"class C fun f(a: U8 = this~h(1)) fun h(b: U8) fun g() => f()":               {ErrChain, []int{0, 4, 3, 0, 1, 0}},
		"class C fun f(a: U8 = x.>h()) fun g(x: U8) => f()":                          {ErrChain, []int{0, 4, 3, 0, 1, 0}},
		"class C fun f(a: U8 = {(z: U8): U8 => apply(where z = 1) }) fun g() => f()": {ErrArgs, []int{0, 4, 3, 0, 1, 4}},
		"class C let a: U8 = x.>f() new create(x: U8)":                               {ErrChain, []int{0, 4, 2, 0}},
		"class C let a: U8 = x.>f() let b: U8 = y.>f()":                              {ErrChain, []int{0, 4, 2, 0}},
		"class C let a: U8 = x.>f() let b: U8":                                       {api.OK, nil},
		"class C let a: U8 = x.>f() fun g() => y.>f()":                               {ErrChain, []int{0, 4, 2, 0}},
		"class C let a: U8 = x.>f() fun g() => y.>f() new create()":                  {ErrChain, []int{0, 5, 6, 0}},
		"primitive P let a: U8 = x.>f()":                                             {api.OK, nil},
		"use \"p\" if 1 class C fun f() => x.>f":                                     {ErrChain, []int{1, 4, 6}},
	})
	for _, n := range []api.Node{{}, node(syntax.Name, ""), node(syntax.Module, "x"), node(syntax.Seq, "", name("x"))} {
		if m, path, e := Module(n, nil); e != api.ErrForm || path != nil || !reflect.DeepEqual(m, api.Node{}) || IsPlain(n) {
			t.Errorf("%v: error %d at %v", n, e, path)
		}
	}
	deep := name("x")
	for range 100 {
		deep = node(syntax.Consume, "", deep)
	}
	if _, _, e := Module(deep, nil); e != api.ErrSize || IsPlain(deep) {
		t.Errorf("a tree that is too deep: error %d", e)
	}
	for _, n := range []api.Node{name("x"), nothing(), word("")} {
		if _, path, e := Module(n, nil); e != api.ErrArg || path != nil || IsPlain(n) {
			t.Errorf("%v: error %d at %v", n, e, path)
		}
	}
}

// TestSizes has modules whose plain trees are too large, some of them much.
func TestSizes(t *testing.T) {
	many := func(s string, n int) string { return strings.Repeat(s, n) }
	for _, s := range []string{
		"class C fun f() => (" + many("[as A: ", 60) + "x" + many("]", 60) + ")",
		"class C fun f(a: A = (" + many("x,", 1000) + "x)) new create() => f()" + many("; f()", 400),
		"class C fun f(a: A = (" + many("x,", 600) + "x)) let a: A = (f()" + many("; f()", 500) + ") " + many("new c() ", 60),
	} {
		n, at, e := parser.Parse(s)
		if strings.Contains(s, ") let a") { // fields stand ahead of methods in texts
			n, at, e = parser.Parse("class C let a: A = (f()" + many("; f()", 500) + ") fun f(a: A = (" + many("x,", 600) + "x)) " + many("new c() ", 60))
		}
		if e != api.OK {
			t.Fatalf("error %d at %d", e, at)
		}
		if m, path, e := Module(n, nil); e != api.ErrSize || len(path) > 0 || !reflect.DeepEqual(m, api.Node{}) {
			t.Errorf("%.40s: error %d at %v", s, e, path)
		}
	}
	late := parse(t, "class C let a: A = (f()"+many("; f()", 500)+") fun f(a: A = ("+many("x,", 600)+"x)) "+many("new c() ", 60)+"fun z() => x.>f")
	if _, path, e := Module(late, nil); e != ErrChain || !slices.Equal(path, []int{0, 66, 6}) {
		t.Errorf("an error behind what is too large: error %d at %v", e, path)
	}
	wide := "class C[" + strings.TrimSuffix(many("A,", 500), ",") + "] fun f(x: ({()}" + many(", {()}", 400) + ")) => {() => x }" + many("; {() => x }", 30)
	if _, path, e := Module(parse(t, wide), nil); e != api.ErrSize || path != nil {
		t.Errorf("many lambda types and bounds: error %d at %v", e, path)
	}
}

// TestChance checks P5.1 to P5.3, and P2, on modules by chance.
func TestChance(t *testing.T) {
	m := sample.Maker{Pick: sample.Source(7)}
	plain := 0
	codes := map[api.Errno]int{}
	for range 3000 {
		n := m.Module(4)
		before := clone(n)
		got, path, e := Module(n, []string{"a", "A"})
		if !syntax.Equal(n, before) {
			t.Fatal("Module changes its argument")
		}
		again, path2, e2 := Module(n, []string{"a", "A"})
		if !reflect.DeepEqual(got, again) || !slices.Equal(path, path2) || e != e2 {
			t.Fatal("Module differs from itself")
		}
		codes[e]++
		if e != api.OK {
			if _, f := syntax.At(n, path); f != api.OK || !reflect.DeepEqual(got, api.Node{}) {
				t.Fatalf("error %d at %v", e, path)
			}
			continue
		}
		plain++
		if !IsPlain(got) {
			text, _ := syntax.Text(n)
			t.Fatalf("%s is rewritten to what is not plain", text)
		}
		checkEntities(t, n, got)
		if back, path, e := Module(got, nil); e == api.OK && isSimple(got) && !syntax.Equal(back, got) {
			t.Fatalf("%s\nchanges, %v\n%s", shown(t, got), path, shown(t, back))
		}
	}
	if plain < 300 || codes[ErrArgs] == 0 || codes[ErrAssign] == 0 || codes[ErrPattern] == 0 || codes[ErrChain] == 0 || codes[api.ErrForm] == 0 {
		t.Errorf("errors and their numbers: %v", codes)
	}
}

// checkEntities checks P5.3: the entities in their order, with their members' names; those that were made have fresh names.
func checkEntities(t *testing.T, n, got api.Node) {
	t.Helper()
	used := map[string]bool{}
	collect(n, used)
	at := 0
	for _, k := range got.Kids {
		if at < len(n.Kids) && k.Text == n.Kids[at].Text && !strings.HasPrefix(k.Text, "_O") {
			if k.Kind == syntax.Entity {
				checkMembers(t, n.Kids[at], k)
			}
			at++
		} else if used[k.Text] || !strings.HasPrefix(k.Text, "_O") {
			t.Fatalf("the entity %s", k.Text)
		}
		used[k.Text] = used[k.Text] || strings.HasPrefix(k.Text, "_O")
	}
	if at != len(n.Kids) {
		t.Fatalf("%d of %d entities", at, len(n.Kids))
	}
}

func checkMembers(t *testing.T, a, b api.Node) {
	t.Helper()
	names := func(n api.Node, kind int) []string {
		var l []string
		for _, k := range n.Kids[4:] {
			if k.Kind == kind {
				l = append(l, k.Text)
			}
		}
		return l
	}
	methods, more := names(a, syntax.Method), names(b, syntax.Method)
	if len(more) == len(methods)+1 && more[0] == "create" {
		more = more[1:]
	}
	if !slices.Equal(names(a, syntax.Field), names(b, syntax.Field)) || !slices.Equal(methods, more) {
		t.Fatalf("the members of %s: %v, %v", a.Text, methods, more)
	}
}

// isSimple reports whether P5.2 says that a plain tree stays as it is; of calls of known methods it asks for nothing, as those are refused or filled in.
func isSimple(n api.Node) bool {
	names := map[string]bool{}
	for _, k := range n.Kids {
		if names[k.Text] {
			return false
		}
		names[k.Text] = true
		fields := map[string]bool{}
		if k.Kind != syntax.Entity {
			continue
		}
		class := k.Kids[0].Text == "class" || k.Kids[0].Text == "actor"
		for _, m := range k.Kids[4:] {
			class = class && !(m.Kind == syntax.Field || m.Kids[0].Text == "new")
			if m.Kind == syntax.Field {
				fields[m.Text] = true
			}
		}
		if class || !hasNoLowerName(k, fields) {
			return false
		}
	}
	return true
}

func hasNoLowerName(n api.Node, fields map[string]bool) bool {
	if n.Kind == syntax.Name && fields[n.Text] || n.Kind == syntax.Qualify && n.Kids[0].Kind == syntax.Name && n.Kids[0].Text[0] >= 'a' {
		return false
	}
	return !slices.ContainsFunc(n.Kids, func(k api.Node) bool { return !hasNoLowerName(k, fields) })
}

// TestLocality checks P5.4: with another body of one method the others are as before, but for fresh names.
func TestLocality(t *testing.T) {
	const module = "class C let n: U8 = 1 fun f(x: U8, y: {(): U8}): U8 => BODY fun g(a: U8): U8 => {() => (a + n) as B }() and [as U8: a]\nf(1, a.>b().>c())"
	renamed := func(body string) string {
		n, _, e := Module(parse(t, strings.Replace(module, "BODY", body, 1)), nil)
		if e != api.OK {
			t.Fatalf("%s: error %d", body, e)
		}
		var texts []string
		for _, m := range n.Kids[0].Kids[4:] {
			if m.Text != "f" {
				texts = append(texts, shown(t, node(syntax.Module, "", node(syntax.Entity, "C", word("class"), word(""), node(syntax.Bounds, ""), nothing(), m))))
			}
		}
		number := map[string]string{}
		return regexp.MustCompile(`_O?[0-9]+`).ReplaceAllStringFunc(strings.Join(texts, "\n"), func(w string) string {
			if number[w] == "" {
				number[w] = "#" + strconv.Itoa(len(number))
			}
			return number[w]
		})
	}
	want := renamed("x")
	for _, body := range []string{"x as B; x as D; 1", "{() => x }; {() => y }; 2", "[as A:]; for i: A in x do {() => i } end"} {
		if got := renamed(body); got != want {
			t.Errorf("%s: %s\nwant %s", body, got, want)
		}
	}
}

func TestIsPlain(t *testing.T) {
	for s, want := range map[string]bool{
		"": true, "use \"p\" if a and not b or_": false, "class C": true, "class C let a: U8 new create(x: U8) => this.a = x; x.add(1); this.b[U8](); let y: U8 = x; y = x is this": true, "class C let a: U8 = 1": false, "class C fun f(a: U8 = 1)": false, "class C let a: {()}": false,
		"class C fun f() => x~f()": false, "class C fun f() => x.>f()": false, "class C fun f() => x.f(where a = 1)": false, "class C fun f() => [as A:]": false, "class C fun f() => not x": false, "class C fun f() => x + y": false, "class C fun f() => x isnt y": true, "class C fun f() => x as A": false,
		"class C fun f() => repeat x until y end": false, "class C fun f() => for a: A in x do y end": false, "class C fun f() => with a: A = x do y end": false, "class C fun f() => ifdef a then x end": false, "class C fun f() => object end": false, "class C fun f() => {() => x }": false, "class C fun f() => x()": false,
		"class C fun f() => x.f()()": false, "class C fun f() => x[A]()": false, "class C fun f() => x.f[A]()": true, "class C fun f() => x.f() = 1": false, "class C fun f() => (let a: A, let b: B) = 1": false, "class C fun f() => x.y = 1": true, "class C fun f() => match x | let a: A => 1 end": true, "class C fun f() => match x | A => 1 end": false,
		"class C fun f() => match x | let a: A if y is x => 1 else while x do y end end": true, "class C fun f() => return (x, try error else break then continue end)": true, "class C fun f() => recover val consume x end": true,
	} {
		if n, _, e := parser.Parse(s); e == api.OK && IsPlain(n) != want {
			t.Errorf("IsPlain of %s is not %v", s, want)
		}
	}
	if !IsPlain(parse(t, "use \"p\" if a and not b")) || IsPlain(name("x")) {
		t.Error("IsPlain of conditions of uses, or of a root that is no module")
	}
}

// TestAnything checks P1 and P2 on trees that need not be well-formed.
func TestAnything(t *testing.T) {
	m := sample.Maker{Pick: sample.Source(10)}
	for i := range 3000 {
		n := m.Wild(3)
		if i%2 == 0 {
			n = m.Broken(3)
		}
		got, path, e := Module(n, nil)
		again, path2, f := Module(n, nil)
		if !reflect.DeepEqual(got, again) || !slices.Equal(path, path2) || e != f || e != api.OK && !reflect.DeepEqual(got, api.Node{}) {
			t.Fatalf("%v: error %d at %v", n, e, path)
		}
		if c := syntax.Check(n); c != api.OK && (e != c || path != nil || IsPlain(n)) || e == api.OK && !IsPlain(got) {
			t.Fatalf("%v: error %d at %v, Check %d", n, e, path, c)
		}
	}
}
