package lower_test

import (
	"strconv"
	"strings"
	"testing"

	"hackamore/api"
	"hackamore/internal/pony"
	"hackamore/internal/sample"
	. "hackamore/lower"
	"hackamore/meaning"
	"hackamore/ssa"
	"hackamore/world"
)

// TestTexts runs the programs of texts by both.
func TestTexts(t *testing.T) {
	for i, s := range pony.Texts() {
		p := pony.Program(s)
		for seed := range 3 {
			pick := sample.Source(uint64(seed))
			var script []int
			for range 40 {
				script = append(script, pick(10))
			}
			if !compare(t, "text "+strconv.Itoa(i), p, script, api.MaxFuel) {
				t.Errorf("text %d does not rest", i)
			}
		}
	}
}

// TestBodies runs bodies of each operation, and of what the ways out of it are.
func TestBodies(t *testing.T) {
	risky := func(x api.Expr) api.Expr { return call("maybe", this(), x) }
	a, b := local("a"), local("b")
	fail, stop, again := expr(api.OpError, ""), expr(api.OpBreak, ""), expr(api.OpContinue, "")
	giveBack := func(k ...api.Expr) api.Expr { return expr(api.OpReturn, "", k...) }
	set := func(name string, v api.Expr) api.Expr { return expr(api.OpAssign, name, v) }
	declare := func(name string, v ...api.Expr) api.Expr { return expr(api.OpVar, name+": U8 val", v...) }
	less := func(x, y api.Expr) api.Expr { return call("lt", x, y) }
	count := func(cond, body, other api.Expr) api.Expr {
		return seq(declare("i", num(0)), say(expr(api.OpWhile, "", cond, seq(set("i", call("add", local("i"), num(1))), body), other)))
	}
	shows := func(kids ...api.Expr) api.Expr { return say(seq(kids...)) }
	for i, body := range []api.Expr{
		seq(), shows(), shows(num(1), num(2)), say(boolean(true)), say(boolean(false)), expr(api.OpLit, "hi: String val"), call("print", expr(api.OpGet, "out", this()), expr(api.OpLit, "hi: String val")),
		say(a), say(expr(api.OpGet, "v", expr(api.OpGet, "cell", this()))), say(expr(api.OpSet, "v", expr(api.OpGet, "cell", this()), num(7))), say(call("tie", expr(api.OpGet, "cell", this()), expr(api.OpGet, "cell", this()))),
		// Local variables.
		seq(declare("x", num(5)), say(set("x", num(6))), say(local("x"))), seq(declare("x"), say(set("x", num(6))), say(local("x"))), shows(declare("x", num(1))), shows(declare("x")), seq(say(set("a", num(9))), say(a)),
		seq(declare("x", a), say(expr(api.OpConsume, "x")), say(set("x", num(3))), say(set("x", num(4))), say(local("x"))), seq(say(expr(api.OpConsume, "a")), set("a", num(3)), say(a)),
		seq(declare("x"), expr(api.OpIf, "", isSame(a, num(0)), set("x", num(1)), no), say(set("x", num(2))), say(local("x"))),
		seq(expr(api.OpIf, "", isSame(a, num(0)), declare("x", num(1)), no), expr(api.OpIf, "", isSame(a, num(0)), seq(say(local("x")), say(set("x", num(2)))), no)),
		seq(declare("x", num(1)), declare("x"), declare("y", set("x", num(3))), say(local("y"))),
		// Conditions and loops.
		say(expr(api.OpIf, "", isSame(a, b), num(1), num(2))), say(expr(api.OpIf, "", isSame(a, b), num(1), no)), expr(api.OpIf, "", isSame(a, b), say(num(1)), no), expr(api.OpIf, "", isSame(a, b), giveBack(), giveBack(num(1))),
		count(less(local("i"), num(3)), local("i"), num(99)), count(less(local("i"), num(0)), local("i"), num(99)), count(less(local("i"), num(0)), local("i"), no), count(less(local("i"), num(3)), again, num(99)), count(boolean(true), expr(api.OpIf, "", less(num(2), local("i")), stop, local("i")), num(99)),
		count(expr(api.OpIf, "", less(local("i"), num(4)), boolean(true), stop), num(8), no), count(seq(expr(api.OpIf, "", isSame(local("i"), num(2)), seq(set("i", num(3)), again), no), less(local("i"), num(5))), local("i"), no),
		count(boolean(true), seq(count(boolean(true), expr(api.OpIf, "", isSame(a, b), giveBack(), stop), no), stop), no), count(less(local("i"), num(2)), giveBack(), num(1)), count(less(local("i"), num(0)), num(1), giveBack()),
		// Matches.
		say(expr(api.OpMatch, "", a, expr(api.OpCase, "n: U8 val", isSame(local("n"), num(0)), num(5)), expr(api.OpCase, "m: U8 val", no, local("m")))), say(expr(api.OpMatch, "", a)), say(expr(api.OpMatch, "", a, expr(api.OpCase, ": Bool val", no, num(5)))),
		say(expr(api.OpMatch, "", expr(api.OpGet, "cell", this()), expr(api.OpCase, "c: main.Shape box", no, call("twice", local("c"))))), say(expr(api.OpMatch, "", expr(api.OpTuple, "", a, b), expr(api.OpCase, "p: (U8 val, U8 val)", no, expr(api.OpItem, "1", local("p"))))),
		say(expr(api.OpMatch, "", a, expr(api.OpCase, ": U8 val", expr(api.OpTry, "", seq(risky(a), boolean(true)), boolean(false), no), num(5)), expr(api.OpCase, ": Any tag", no, giveBack()))),
		// Errors.
		say(expr(api.OpTry, "", risky(a), num(9), no)), say(expr(api.OpTry, "", risky(a), no, no)), say(expr(api.OpTry, "", risky(a), num(9), say(num(8)))), say(expr(api.OpTry, "", fail, num(9), say(num(8)))), say(expr(api.OpTry, "", expr(api.OpTry, "", fail, risky(a), say(num(8))), num(7), say(num(6)))),
		say(expr(api.OpTry, "", expr(api.OpTry, "", fail, fail, say(num(8))), num(7), no)), expr(api.OpTry, "", giveBack(num(1)), no, say(num(8))), count(boolean(true), expr(api.OpTry, "", expr(api.OpIf, "", less(local("i"), num(3)), again, stop), no, say(local("i"))), no),
		count(less(local("i"), num(3)), expr(api.OpTry, "", fail, stop, again), no), expr(api.OpTry, "", expr(api.OpTry, "", giveBack(), no, fail), say(num(4)), no), count(boolean(true), expr(api.OpTry, "", giveBack(), no, stop), no), say(expr(api.OpTry, "", giveBack(num(3)), no, giveBack(num(4)))),
		say(expr(api.OpTry, "", expr(api.OpTry, "", giveBack(num(3)), no, expr(api.OpTry, "", giveBack(), num(1), fail)), num(2), no)), say(expr(api.OpTry, "", call("part", expr(api.OpGet, "cell", this()), a), num(9), no)), say(expr(api.OpTry, "", call("add_partial", a, num(255)), num(9), no)), say(expr(api.OpTry, "", call("apply", expr(api.OpGet, "list", this()), expr(api.OpLit, "0: USize val")), num(9), no)),
		say(call("size", expr(api.OpTry, "", expr(api.OpNew, "risk: main.Cell ref", a), expr(api.OpNew, "create: main.Cell ref", num(77)), no))), say(expr(api.OpTry, "", call("help", this(), seq(call("help", this(), a), fail)), num(3), no)),
		// Calls.
		call("go", expr(api.OpGet, "act", this()), a), say(call("go", expr(api.OpGet, "act", this()), a)), say(call("go", expr(api.OpGet, "cell", this()), a)), say(call("go", expr(api.OpIf, "", isSame(a, b), expr(api.OpGet, "cell", this()), expr(api.OpGet, "act", this())), a)), expr(api.OpIf, "", isSame(a, num(0)), seq(), call("back", expr(api.OpGet, "act", this()), this(), num(0))),
		say(call("deep", expr(api.OpGet, "cell", this()), num(20))), say(call("twice", expr(api.OpGet, "cell", this()))), say(call("help", this(), call("maybe", this(), num(2)))), say(call("string", call("string", a))), say(expr(api.OpUnit, ": None val")),
		// New objects, tuples and the like.
		say(expr(api.OpNew, "create: U8 val", num(3))), say(call("size", expr(api.OpNew, `create: "Array[U8 val]" ref`))), expr(api.OpSet, "act", this(), expr(api.OpNew, "create: main.Act tag", expr(api.OpGet, "out", this()), num(1))), say(call("size", expr(api.OpSet, "cell", this(), expr(api.OpNew, "create: main.Cell ref", num(9))))),
		expr(api.OpNew, "create: None val", a), expr(api.OpNew, "nope: None val"), say(expr(api.OpItem, "0", expr(api.OpTuple, "", a, b, a))), say(isSame(expr(api.OpTuple, "", a, b), expr(api.OpTuple, "", a, b))), say(isSame(this(), expr(api.OpGet, "cell", this()))), say(expr(api.OpRecover, ": this val", a)),
		// What is never reached.
		seq(giveBack(), say(num(1)), expr(api.OpItem, "99", a), expr(api.OpNew, "nope: main.Nope ref"), fail), expr(api.OpIf, "", boolean(true), say(num(1)), expr(api.OpItem, "64", a)), expr(api.OpIf, "", boolean(true), say(num(1)), expr(api.OpNew, "nope: main.Cell ref")), expr(api.OpIf, "", boolean(true), say(num(1)), expr(api.OpItem, "99999999999999999999", a)),
		seq(call("help", this(), giveBack()), say(num(1))), expr(api.OpTuple, "", giveBack(), say(num(1))), expr(api.OpWhile, "", giveBack(), say(num(1)), say(num(2))), expr(api.OpIf, "", giveBack(), say(num(1)), say(num(2))), expr(api.OpMatch, "", giveBack(), expr(api.OpCase, ": Any tag", no, say(num(1)))), expr(api.OpNew, "create: main.Cell ref", giveBack()), expr(api.OpTry, "", giveBack(), say(num(1)), no),
		expr(api.OpIs, "", giveBack(), a), expr(api.OpSet, "cell", this(), giveBack()), declare("q", giveBack()), set("a", giveBack()), expr(api.OpRecover, ": this val", giveBack()), expr(api.OpReturn, "", giveBack()), expr(api.OpItem, "0", giveBack()), expr(api.OpGet, "x", giveBack()),
	} {
		if !compare(t, "body "+strconv.Itoa(i), with(body), []int{0, 1, 2, 1, 0, 5}, 500) {
			_, end := meaning.Run(with(body), []string{"x"}, []int{0, 1, 2, 1, 0, 5}, 500)
			t.Errorf("body %d does not rest: %v: %v", i, end, body)
		}
	}
}

// TestChance checks P20.2 with bodies by chance, many of which leave what is around them, and lose values.
func TestChance(t *testing.T) {
	rests := 0
	for seed := range 800 {
		m := &pony.NumberMaker{Pick: sample.Source(uint64(seed))}
		if compare(t, "seed "+strconv.Itoa(seed), m.With(whole), []int{m.Pick(5), m.Pick(5), m.Pick(5), m.Pick(5)}, 500) {
			rests++
		}
		if t.Failed() {
			t.FailNow()
		}
	}
	if rests < 150 {
		t.Errorf("%d rest", rests)
	}
}

// TestWholeBodies checks P20.2 with bodies for the methods of a program that has something of everything.
func TestWholeBodies(t *testing.T) {
	p := pony.Program(pony.Cells)
	rests := 0
	for seed := range 300 {
		m := pony.BodyMaker{Pick: sample.Source(uint64(seed))}
		q := p
		for _, x := range []string{"main.Act go", "main.Cell get", "main.Cell put", "main.Dog m", "main.Main create"} {
			entity, method, _ := strings.Cut(x, " ")
			i, j := pony.At(p, entity, method)
			q = change(q, entity, method, m.Body(p[i].Methods[j], 4))
		}
		if compare(t, "seed "+strconv.Itoa(seed), q, []int{m.Pick(5), m.Pick(5)}, api.MaxFuel) {
			rests++
		}
	}
	if rests < 50 {
		t.Errorf("%d rest", rests)
	}
}

// TestErrors: what cannot be lowered.
func TestErrors(t *testing.T) {
	if _, e := Lower(nil); e != world.ErrMethod {
		t.Errorf("error %d", e)
	}
	if _, e := Lower(make([]api.Entity, 201)); e != api.ErrSize {
		t.Errorf("error %d", e)
	}
	if _, e := Method(make([]api.Entity, 201), "a", "b"); e != world.ErrMethod {
		t.Errorf("error %d", e)
	}
	lone := []api.Entity{{Kind: api.Class, Name: "C", Methods: []api.Method{{Kind: api.Fun, Name: "m", Body: expr(api.OpReturn, "", this())}}}}
	if f, e := Method(lone, "C", "m"); e != api.OK || f.Name != "C.m" {
		t.Errorf("%v, error %d", f, e)
	}
	deep := seq()
	for range api.MaxTree - 1 {
		deep = seq(deep)
	}
	many := func(n int, k api.Expr) api.Expr {
		x := seq()
		for range n {
			x.Kids = append(x.Kids, k)
		}
		return x
	}
	while := func(kids ...api.Expr) api.Expr { return expr(api.OpWhile, "", kids...) }
	stop, again := expr(api.OpBreak, ""), expr(api.OpContinue, "")
	typed := func(x api.Expr, n int) api.Expr { x.Types = make([]api.Type, n); return x }
	for i, c := range []struct {
		body api.Expr
		want api.Errno
	}{
		{seq(), 0}, {deep, 0}, {seq(deep), ErrLower}, {many(api.MaxNodes-1, this()), 0}, {many(api.MaxNodes, this()), ErrLower}, {many(1500, say(num(1))), ErrLower}, {many(300, expr(api.OpIf, "", boolean(true), num(1), num(2))), ErrLower}, {many(100, expr(api.OpIf, "", boolean(true), num(1), num(2))), 0},
		{api.Expr{Op: 99}, ErrLower}, {api.Expr{Op: -1}, ErrLower}, {seq(api.Expr{}), ErrLower}, {expr(api.OpIf, "", boolean(true), num(1)), ErrLower}, {expr(api.OpIf, "", boolean(true), no, no), ErrLower}, {expr(api.OpIf, "", no, num(1), no), ErrLower}, {typed(seq(), 1), ErrLower},
		{expr(api.OpLit, "x: U8 val"), ErrLower}, {expr(api.OpLit, "256: U8 val"), ErrLower}, {expr(api.OpLit, "yes: Bool val"), ErrLower}, {expr(api.OpLit, "1: main.Cell val"), ErrLower}, {expr(api.OpLit, "1"), ErrLower}, {expr(api.OpLit, strings.Repeat("x", 4000)+": String val"), 0}, {expr(api.OpLit, strings.Repeat("x", 4001)+": String val"), ErrLower}, {expr(api.OpLit, "\xff: String val"), ErrLower},
		{expr(api.OpItem, "x", this()), ErrLower}, {expr(api.OpItem, "", this()), ErrLower}, {expr(api.OpItem, "01", this()), ErrLower}, {expr(api.OpItem, "-1", this()), ErrLower}, {expr(api.OpItem, "+1", this()), ErrLower}, {expr(api.OpItem, "0", this()), 0}, {expr(api.OpItem, "63", this()), 0}, {expr(api.OpItem, "12345678901234567890123", this()), 0},
		{stop, ErrLower}, {again, ErrLower}, {while(stop, again, no), 0}, {while(boolean(true), expr(api.OpTry, "", stop, again, stop), no), 0}, {while(boolean(true), seq(), stop), ErrLower}, {while(boolean(true), seq(), again), ErrLower}, {while(boolean(true), while(boolean(true), seq(), stop), no), 0}, {while(no, seq(), no), ErrLower}, {while(boolean(true), no, no), ErrLower},
		{expr(api.OpCase, ": U8 val", no, seq()), ErrLower}, {expr(api.OpMatch, "", this(), seq()), ErrLower}, {expr(api.OpMatch, "", this(), expr(api.OpCase, ": U8 val", no, no)), ErrLower}, {expr(api.OpMatch, "", this(), expr(api.OpCase, "", no, seq())), ErrLower}, {expr(api.OpMatch, "", this(), expr(api.OpCase, ": U8 val", no)), ErrLower}, {expr(api.OpMatch, "", this(), expr(api.OpCase, ": U8 val", stop, seq())), ErrLower}, {expr(api.OpMatch, "", this(), expr(api.OpCase, ": U8 val", no, seq()), api.Expr{}), ErrLower},
		{expr(api.OpTry, "", no, no, no), ErrLower}, {expr(api.OpTry, "", seq(), no, no), 0}, {expr(api.OpTry, "", seq(), no), ErrLower}, {expr(api.OpTuple, "", this()), ErrLower}, {typed(call("x", this()), 70), 0}, {api.Expr{Op: api.OpNew, Text: "create"}, ErrLower}, {typed(api.Expr{Op: api.OpNew}, 5), 0}, {api.Expr{Op: api.OpUnit}, ErrLower}, {expr(api.OpReturn, "", this(), this()), ErrLower}, {expr(api.OpRecover, "", this()), ErrLower},
		{expr(api.OpTuple, "", many(64, this()).Kids...), 0}, {expr(api.OpTuple, "", many(65, this()).Kids...), ErrLower}, {call("m", many(64, this()).Kids...), 0}, {call("m", many(65, this()).Kids...), ErrLower}, {call("", this()), ErrLower}, {call(strings.Repeat("m", 201), this()), ErrLower}, {expr(api.OpGet, "", this()), ErrLower}, {seq(expr(api.OpVar, ": U8 val", num(1)), expr(api.OpAssign, "", num(1)), local("")), 0}, {seq(expr(api.OpVar, "\xff: U8 val", num(1)), local("\xff")), 0},
	} {
		p := with(c.body)
		f, e := Method(p, "main.Main", "test")
		all, e2 := Lower(p)
		if e != c.want || e2 != c.want || e != api.OK && (f.Name != "" || len(all.Funcs) > 0 || len(all.Entities) > 0) {
			t.Errorf("%d: errors %d and %d, not %d", i, e, e2, c.want)
		}
		if _, fault := ssa.CheckFunc(f); e == api.OK && fault != api.OK {
			t.Errorf("%d: not right: %d", i, fault)
		}
		if g, e2 := ssa.Promote(f); e == api.OK && e2 != api.OK {
			t.Errorf("%d: Promote: error %d, %d blocks", i, e2, len(g.Blocks))
		}
	}
	p := with(seq())
	for _, x := range [][2]string{{"main.Nope", "test"}, {"main.Main", "nope"}, {"String", "size"}, {"main.Act", ""}} {
		if _, e := Method(p, x[0], x[1]); e != world.ErrMethod {
			t.Errorf("%v: error %d", x, e)
		}
	}
}

// TestNames: the functions, their names, parameters and the like.
func TestNames(t *testing.T) {
	p := pony.Program(pony.Numbers)
	l, e := Lower(p)
	if e != api.OK || len(l.Entities) != len(p) {
		t.Fatalf("error %d", e)
	}
	var names []string
	for _, f := range l.Funcs {
		names = append(names, f.Name)
		entity, method := f.Name[:strings.LastIndex(f.Name, ".")], f.Name[strings.LastIndex(f.Name, ".")+1:]
		w, _ := world.New(p, nil)
		m, _ := w.Method(entity, method)
		g, e := Method(p, entity, method)
		if e != api.OK || !ssa.Equal(f, g) || f.Partial != m.Partial || len(f.Params) != len(m.Params)+1 || f.Result.Name != m.Result.Name {
			t.Errorf("%s: error %d: %v", f.Name, e, g)
		}
		if r := f.Params[0]; r.Kind != api.TypeName || r.Name != entity || r.Cap != m.Cap || r.Mark != 0 || len(r.Args) > 0 {
			t.Errorf("%s: %v", f.Name, r)
		}
		for i, x := range m.Params {
			if f.Params[i+1].Name != x.Type.Name || f.Params[i+1].Kind != x.Type.Kind {
				t.Errorf("%s: %v", f.Name, f.Params)
			}
		}
	}
	for i, x := range p {
		if l.Entities[i].Name != x.Name || len(l.Entities[i].Methods) != len(x.Methods) || len(l.Entities[i].Fields) != len(x.Fields) {
			t.Errorf("%s: %v", x.Name, l.Entities[i])
		}
		for _, m := range l.Entities[i].Methods {
			if m.Body.Op != 0 || len(m.Body.Kids) > 0 {
				t.Errorf("%s.%s has a body", x.Name, m.Name)
			}
		}
	}
	got := strings.Join(names, " ")
	const want = "main.Cell.create main.Cell.risk main.Cell.size main.Cell.put main.Cell.tie main.Cell.part main.Cell.deep main.Cell.go main.Cell.twice main.Act.create main.Act.go main.Act.back main.Main.create main.Main.test main.Main.help main.Main.maybe"
	if !strings.HasSuffix(got, want) {
		t.Errorf("%s", got)
	}
	if f, e := Method(p, "main.Shape", "twice"); e != api.OK || f.Name != "main.Shape.twice" || f.Params[0].Name != "main.Shape" {
		t.Errorf("%v, error %d", f, e)
	}
	for i, c := range []struct {
		entity string
		e      api.Errno
	}{{strings.Repeat("x", 195), 0}, {strings.Repeat("x", 196), ErrLower}, {"\xff", ErrLower}, {"main.Cell.a", 0}} {
		q := append(with(seq()), api.Entity{Kind: api.Class, Name: c.entity, Methods: []api.Method{{Kind: api.Fun, Name: "test", Body: seq()}}})
		_, e := Method(q, c.entity, "test")
		_, e2 := Lower(q)
		if e != c.e || e2 != c.e {
			t.Errorf("%d: errors %d, %d", i, e, e2)
		}
	}
	twice := append(with(seq()), api.Entity{Kind: api.Class, Name: "a.b", Methods: []api.Method{{Kind: api.Fun, Name: "c", Body: seq()}}}, api.Entity{Kind: api.Class, Name: "a", Methods: []api.Method{{Kind: api.Fun, Name: "b.c", Body: seq()}}})
	if _, e := Lower(twice); e != ErrLower {
		t.Errorf("two with one name: error %d", e)
	}
	if _, e := Method(twice, "a", "b.c"); e != api.OK {
		t.Errorf("error %d", e)
	}
}

// TestExample: of a body that returns a parameter one block is left.
func TestExample(t *testing.T) {
	p := change(pony.Program(pony.Numbers), "main.Main", "help", expr(api.OpReturn, "", local("a")))
	f, e := Method(p, "main.Main", "help")
	if e != api.OK {
		t.Fatalf("error %d", e)
	}
	f, _ = ssa.Promote(f)
	f, e = ssa.Clean(f)
	if e != api.OK || len(f.Blocks) != 1 || len(f.Blocks[0].Ins) != 0 || f.Blocks[0].End.Kind != ssa.Return || f.Blocks[0].End.Args[0] != 1 {
		t.Errorf("%v", f)
	}
}

// TestNatives: what is certainly a number is computed by intrinsics, but not what only should be one, nor by methods that a program has itself.
func TestNatives(t *testing.T) {
	count := func(p []api.Entity) (natives, calls int) {
		f, e := Method(p, "main.Main", "test")
		if e != api.OK {
			t.Fatalf("error %d", e)
		}
		for _, b := range f.Blocks {
			for _, x := range b.Ins {
				switch x.Op {
				case ssa.Native:
					natives++
					if x.Type.Name != "U8" && x.Type.Name != "Bool" && x.Type.Name != "U16" {
						t.Errorf("%v", x)
					}
				case ssa.Call:
					calls++
				}
			}
		}
		return natives, calls
	}
	a, i := local("a"), local("i")
	set := func(name string, v api.Expr) api.Expr { return expr(api.OpAssign, name, v) }
	declare := func(v ...api.Expr) api.Expr { return expr(api.OpVar, "i: U8 val", v...) }
	add := func(x, y api.Expr) api.Expr { return call("add", x, y) }
	for n, c := range []struct {
		body           api.Expr
		natives, calls int
	}{
		{add(num(1), num(2)), 1, 0}, {add(a, num(2)), 0, 1}, {add(num(1), a), 0, 1}, {add(add(num(1), num(2)), num(3)), 2, 0}, {call("string", num(1)), 0, 1}, {call("add_partial", num(1), num(2)), 0, 1}, {call("nope", num(1)), 0, 1}, {call("add", num(1)), 0, 1}, {call("add", num(1), boolean(true)), 0, 1}, {call("neg", call("u16", num(1))), 2, 0}, {call("op_and", isSame(a, a), call("lt", num(1), num(2))), 2, 0},
		{seq(declare(num(0)), expr(api.OpWhile, "", call("lt", i, num(3)), set("i", add(i, num(1))), no)), 2, 0}, {seq(declare(num(0)), expr(api.OpWhile, "", call("lt", i, num(3)), set("i", add(i, a)), no)), 0, 2}, {seq(declare(), set("i", num(1)), add(i, i)), 1, 0}, {seq(declare(num(1)), expr(api.OpConsume, "i"), set("i", num(2)), add(i, i)), 1, 0}, {seq(declare(num(1)), set("i", boolean(true)), add(i, i)), 0, 1}, {seq(declare(), add(i, i)), 0, 1},
		{seq(expr(api.OpTry, "", add(num(1), num(2)), no, no)), 1, 0}, {expr(api.OpIf, "", call("eq", num(1), num(2)), add(num(1), num(1)), add(a, a)), 2, 1},
	} {
		natives, calls := count(with(c.body))
		if natives != c.natives || calls != c.calls {
			t.Errorf("%d: %d natives and %d calls, not %d and %d", n, natives, calls, c.natives, c.calls)
		}
		p := change(with(c.body), "U8", "add", num(9))
		if natives, _ := count(p); n < 2 && natives != 0 {
			t.Errorf("%d: %d natives of a method of the program", n, natives)
		}
		compare(t, "own "+strconv.Itoa(n), change(with(say(c.body)), "U8", "add", num(9)), []int{1, 2}, 500)
	}
}
