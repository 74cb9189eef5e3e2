package check_test

import (
	"slices"
	"strings"
	"testing"
	"time"

	"hackamore/api"
	. "hackamore/check"
	"hackamore/flow"
	"hackamore/names"
)

func TestBegin(t *testing.T) {
	p := cells()
	for _, c := range []struct{ entity, method, want string }{
		{"main.Cell", "get", ""}, {"main.Cell", "put", "x main.Cell ref"}, {"main.Act", "go", "x main.Cell iso"}, {"main.Main", "create", "env Env val"},
		{"main.Cell", "create", "x main.Cell ref, v main.Cell val, i' main.Cell iso consumed, t' main.Cell trn consumed"}, {"main.Runs", "go", "x main.Cell iso"}, {"U8", "add", "that U8 val"},
	} {
		i, j := at(t, p, c.entity, c.method)
		got, e := Begin(p, i, j)
		var l []string
		for _, x := range got.Locals {
			s := x.Name + " " + text(x.Type)
			if !x.Always {
				s += " consumed"
			}
			if !x.Param || x.Region != 0 {
				t.Errorf("%+v", x)
			}
			l = append(l, s)
		}
		want := strings.ReplaceAll(c.want, "x main.Cell iso", "x main.Cell iso"+map[bool]string{true: " consumed"}[c.entity == "main.Act"])
		if c.method == "add" {
			want = got.Locals[0].Name + " U8 val"
		}
		if e != api.OK || strings.Join(l, ", ") != want || got.Entity != i || got.Method != j || len(got.Regions) > 0 {
			t.Errorf("%s.%s: %+v, error %d", c.entity, c.method, l, e)
		}
	}
	for _, c := range [][2]int{{-1, 0}, {len(p), 0}, {0, -1}, {0, len(p[0].Methods)}} {
		if got, e := Begin(p, c[0], c[1]); e != api.ErrRange || len(got.Locals) > 0 || got.Entity != 0 {
			t.Errorf("%v: error %d", c, e)
		}
	}
}

// TestBeginReceivers: the types of parameters are seen by the receiver.
func TestBeginReceivers(t *testing.T) {
	for _, c := range []struct {
		entity string
		m      api.Method
		want   string
		e      api.Errno
	}{
		{"main.Dog", method(api.Fun, "x", api.Box, "", u8()), "main.Cell box", 0}, {"main.Dog", method(api.Fun, "x", api.Iso, "", u8()), "main.Cell tag", 0}, {"main.Dog", method(api.Fun, "x", api.Tag, "", u8()), "", api.ErrCap}, {"main.Dog", method(api.Fun, "x", 0, "", u8()), "", api.ErrCap},
		{"main.Dog", method(api.New, "x", api.Val, "", u8()), "main.Cell ref", 0}, {"main.P", method(api.New, "x", api.Val, "", u8()), "main.Cell val", 0}, {"main.Act", method(api.New, "x", api.Tag, "", u8()), "main.Cell ref", 0}, {"main.Act", method(api.Be, "x", api.Tag, "", u8()), "main.Cell ref", 0},
		{"main.Named", method(api.Be, "x", api.Tag, "", u8()), "main.Cell ref", 0}, {"main.P", method(api.Be, "x", 0, "", u8()), "main.Cell val", 0},
	} {
		c.m.Params = []api.Param{{Name: "y", Type: typ("U8 val")}, {Name: "x", Type: typ("(this -> main.Cell ref)")}}
		p, i := withEntity(t, cells(), c.entity, func(e *api.Entity) { e.Methods = append(e.Methods, c.m) })
		got, e := Begin(p, i, len(p[i].Methods)-1)
		if e != c.e || e == api.OK && text(got.Locals[1].Type) != c.want || e != api.OK && (len(got.Locals) > 0 || got.Entity != 0) {
			t.Errorf("%s %d %d: %+v, error %d", c.entity, c.m.Kind, c.m.Cap, got, e)
		}
		if b, f, e2 := Method(p, i, len(p[i].Methods)-1); c.e != api.OK && (e2 != c.e || !sameFault(f, Fault{i, len(p[i].Methods) - 1, nil}) || len(b.Types) > 0 || b.Entity != 0) {
			t.Errorf("Method: error %d at %v", e2, f)
		}
	}
}

// bodied is a body of a method of the program of cells: the types that are found, or the error and its path.
type bodied struct {
	where string
	body  api.Expr
	types string
	e     api.Errno
	path  []int
}

func testBodies(t *testing.T, change func(*api.Method), l []bodied) {
	t.Helper()
	for _, c := range l {
		entity, name, _ := strings.Cut(c.where, " ")
		p, i, j := with(t, cells(), entity, name, func(m *api.Method) {
			m.Partial = false
			if change != nil {
				change(m)
			}
			m.Body = c.body
		})
		b, f, e := Method(p, i, j)
		var l []string
		for _, x := range b.Types {
			s := text(x)
			if s == "" {
				s = "-"
			}
			l = append(l, s)
		}
		want := Fault{i, j, c.path}
		if c.e == api.OK {
			want = Fault{}
		}
		if got := strings.Join(l, "; "); e != c.e || !sameFault(f, want) || got != c.types {
			t.Errorf("%s in %s: %s, error %d at %v; not %s, error %d at %v", show(c.body), c.where, got, e, f, c.types, c.e, c.path)
		}
		if c.e != api.OK && (b.Entity != 0 || b.Method != 0) {
			t.Errorf("with an error: %v", b)
		}
	}
}

func TestMethodExamples(t *testing.T) {
	c := get("c", this())
	testBodies(t, nil, []bodied{
		{inBox, c, "main.Cell box; main.Cell box", 0, nil}, {inRef, c, "main.Cell ref; main.Cell ref", 0, nil}, {inBox, ex(api.OpSet, "c", this(), this()), "", ErrView, nil},
		{"main.Cell send", ex(api.OpRecover, ": this", ex(api.OpNew, "create: main.Dog ref")), "main.Dog iso^; main.Dog ref", 0, nil},
		{"main.Cell send", ex(api.OpMatch, "", get("o", this()), ex(api.OpCase, ": main.Cell iso", noExpr(), this())), "", ErrCases, nil},
		{"main.Cell send", ex(api.OpMatch, "", get("o", this()), ex(api.OpCase, ": main.Cell tag", noExpr(), this())), "(None val | main.Cell ref); (main.Cell iso! | None val); main.Cell ref; main.Cell ref; -; main.Cell ref", 0, nil},
	})
}

func TestMethodErrors(t *testing.T) {
	p := cells()
	for _, c := range [][2]int{{-1, 0}, {len(p), 0}, {0, -1}, {0, len(p[0].Methods)}} {
		if b, f, e := Method(p, c[0], c[1]); e != api.ErrRange || !sameFault(f, Fault{}) || len(b.Types) > 0 {
			t.Errorf("%v: error %d at %v", c, e, f)
		}
	}
	bad := local("nobody")
	testBodies(t, nil, []bodied{
		{inRef, seq(bad, ex(api.OpThis, "x")), "", api.ErrForm, path(1)}, // Shape ahead of rules
		{inRef, ex(api.OpCase, ": U8 val", noExpr(), this()), "", api.ErrForm, nil},
		{inRef, ex(api.OpGet, "none", seq(this(), bad)), "", api.ErrScope, path(0, 1)}, // Kids ahead of their node
		{inRef, seq(get("none", this()), bad), "", api.ErrNone, path(0)}, {inRef, seq(get("none", get("c", bad)), bad), "", api.ErrScope, path(0, 0, 0)}, {inRef, ex(api.OpIf, "", this(), bad, noExpr()), "", api.ErrScope, path(1)}, {inRef, ex(api.OpIf, "", this(), this(), noExpr()), "", api.ErrType, nil},
		{inRef, u8(), "", ErrResult, nil}, {inRef, seq(bad, u8()), "", api.ErrScope, path(0)}, {inRef, ex(api.OpReturn, "", u8()), "", ErrResult, nil}, {inRef, seq(u8(), ex(api.OpReturn, "", u8())), "", ErrResult, path(1)},
		{inRef, ex(api.OpReturn, "", this()), "-; main.Cell ref", 0, nil}, {inRef, ex(api.OpIf, "", yes(), this(), ex(api.OpReturn, "", this())), "main.Cell ref; Bool val; main.Cell ref; -; main.Cell ref", 0, nil},
		{inRef, ex(api.OpIf, "", yes(), this(), noExpr()), "", ErrResult, nil}, {inRef, noExpr(), "", 0, nil}, {inRef, api.Expr{Text: "x", Kids: []api.Expr{bad}}, "", 0, nil},
		{"main.Cell send", u8(), "U8 val", 0, nil}, {"main.Act go", u8(), "U8 val", 0, nil}, {"main.Cat create", u8(), "U8 val", 0, nil},
		{inRef, ex(api.OpError, ""), "", flow.ErrPartial, nil}, {inRef, seq(u8(), ex(api.OpBreak, "")), "", flow.ErrLoop, path(1)}, {inRef, seq(ex(api.OpReturn, "", this()), this()), "", flow.ErrDead, path(1)}, {inNew, this(), "", flow.ErrField, nil},
		{inRef, seq(ex(api.OpVar, "v: U8 val"), local("v"), local("v"), this()), "", flow.ErrUnset, path(1)}, {inRef, seq(local("v"), ex(api.OpError, "")), "", api.ErrScope, path(0)}, {inRef, seq(ex(api.OpError, ""), u8()), "", ErrResult, nil}, // rules, and the result, ahead of flow
		{inRef, ex(api.OpTry, "", this(), api.Expr{Text: "x"}, noExpr()), "", ErrResult, nil}, {"main.Cell send", ex(api.OpTry, "", this(), api.Expr{Text: "x"}, noExpr()), "", api.ErrForm, nil}, // an odd kind of none is one here, but not for flow
	})
	testBodies(t, func(m *api.Method) { m.Result = typ("(this tag -> main.Cell ref)") }, []bodied{{inRef, this(), "", ErrResult, nil}, {inRef, ex(api.OpError, ""), "", ErrResult, nil}, {inNew, ex(api.OpReturn, ""), "", flow.ErrField, nil}})
	testBodies(t, func(m *api.Method) { m.Result = typ("None val") }, []bodied{{inRef, u8(), "U8 val", 0, nil}})
	testBodies(t, func(m *api.Method) { m.Result = api.Type{} }, []bodied{{inRef, u8(), "U8 val", 0, nil}})
	testBodies(t, func(m *api.Method) { m.Result = typ("None box") }, []bodied{{inRef, u8(), "", ErrResult, nil}, {inRef, ex(api.OpUnit, ": None val"), "None val", 0, nil}})
	testBodies(t, func(m *api.Method) { m.Result = typ("(this -> main.Cell ref)") }, []bodied{{inBox, this(), "main.Cell box", 0, nil}, {inBox, ex(api.OpError, ""), "", flow.ErrPartial, nil}})
}

// TestMethodPartial: what is called, or made, and is Partial, may end with an error.
func TestMethodPartial(t *testing.T) {
	part := ex(api.OpCall, "part", this(), u8())
	make := ex(api.OpNew, "make: main.Cell ref", get("d", this()))
	whole := ex(api.OpCall, "m", ex(api.OpNew, "create: main.Dog ref"))
	none := "main.Cell send"
	testBodies(t, nil, []bodied{
		{none, seq(part), "", flow.ErrPartial, path(0)}, {none, seq(u8(), make), "", flow.ErrPartial, path(1)}, {none, whole, "U8 val; main.Dog ref", 0, nil}, {none, seq(whole, seq(part, make)), "", flow.ErrPartial, path(1, 0)},
		{none, ex(api.OpTry, "", part, u8(), noExpr()), "U8 val; U8 val; main.Cell ref; U8 val; U8 val; -", 0, nil}, {none, ex(api.OpTry, "", part, part, noExpr()), "", flow.ErrPartial, path(1)},
	})
	testBodies(t, func(m *api.Method) { m.Partial = true }, []bodied{{none, part, "U8 val; main.Cell ref; U8 val", 0, nil}, {none, make, "main.Cell iso^; main.Cell val; main.Cell ref", 0, nil}, {none, whole, "", flow.ErrPartial, nil}})
}

// TestMethodLocals: which local variables there are where, with which types.
func TestMethodLocals(t *testing.T) {
	let := func(s string, k api.Expr) api.Expr { return ex(api.OpLet, s, k) }
	cell := get("c", this())
	none := "main.Cell send"
	caseOf := func(s string, guard, body api.Expr) api.Expr {
		return ex(api.OpMatch, "", ex(api.OpSet, "i", this(), ex(api.OpConsume, "x")), ex(api.OpCase, s, guard, body))
	}
	took := "main.Cell iso^; main.Cell ref; main.Cell iso^; "
	testBodies(t, nil, []bodied{
		{none, seq(let("v: U8 val", u8()), local("v")), "U8 val; None val; U8 val; U8 val", 0, nil}, {none, seq(local("v"), let("v: U8 val", u8())), "", api.ErrScope, path(0)}, {none, let("v: U8 val", seq(local("v"), u8())), "", api.ErrScope, path(0, 0)},
		{none, ex(api.OpAssign, "v", seq(ex(api.OpVar, "v: U8 val", u8()), u8())), "", api.ErrScope, nil}, // not by its Kids
		{none, seq(seq(let("v: U8 val", u8())), local("v")), "U8 val; None val; None val; U8 val; U8 val", 0, nil},
		{none, seq(let("v: U8 val", seq(let("v: main.Cell ref", cell), u8())), local("v")), "U8 val; None val; U8 val; None val; main.Cell ref; main.Cell ref; U8 val; U8 val", 0, nil}, // the outer one is declared last
		{none, seq(ex(api.OpVar, "v: U8 val", u8()), ex(api.OpAssign, "v", u8())), "U8 val; None val; U8 val; U8 val; U8 val", 0, nil},
		{none, seq(ex(api.OpVar, "v: U8 val"), ex(api.OpAssign, "v", u8()), u8()), "U8 val; None val; (None val | U8 val); U8 val; U8 val", 0, nil},
		{none, seq(ex(api.OpVar, "v: U8 val", u8()), ex(api.OpConsume, "v"), ex(api.OpAssign, "v", u8()), u8()), "U8 val; None val; U8 val; U8 val; (None val | U8 val); U8 val; U8 val", 0, nil},
		{none, seq(ex(api.OpVar, "v: U8 val", u8()), ex(api.OpAssign, "v", u8()), ex(api.OpConsume, "v")), "U8 val; None val; U8 val; (None val | U8 val); U8 val; U8 val", 0, nil}, // also if it is consumed behind it

		{none, caseOf("k: main.Cell iso", noExpr(), ex(api.OpConsume, "k")), "main.Cell iso^; " + took + "main.Cell iso^; -; main.Cell iso^", 0, nil},
		{none, caseOf("k: main.Cell iso^", ex(api.OpIs, "", local("k"), local("k")), ex(api.OpConsume, "k")), "(None val | main.Cell iso^); " + took + "main.Cell iso^; Bool val; main.Cell iso!; main.Cell iso!; main.Cell iso^", 0, nil},
		{none, caseOf("k: main.Cell iso", seq(ex(api.OpConsume, "k"), yes()), ex(api.OpConsume, "k")), "", flow.ErrUnset, path(1, 1)},
		{none, caseOf("k: main.Cell iso", ex(api.OpCall, "alone", ex(api.OpConsume, "k")), u8()), "", ErrView, path(1, 0)}, // in the guard it is iso!
		{none, caseOf("k: main.Cell iso", ex(api.OpAssign, "k", u8()), u8()), "", ErrPlace, path(1, 0)},
		{none, caseOf("k: main.Cell iso", seq(let("k: U8 val", u8()), yes()), local("k")), "(None val | U8 val); " + took + "U8 val; Bool val; None val; U8 val; Bool val; U8 val", 0, nil}, // what the guard declares is the last one
		{none, seq(caseOf("k: main.Cell iso", noExpr(), u8()), local("k")), "", flow.ErrUnset, path(1)},                                                                                     // it is declared behind, but has no value
		{none, caseOf(": main.Cell iso", noExpr(), local("")), "", api.ErrForm, path(1, 1)},
	})
}

// TestMethodRegions: what is met in a recover block.
func TestMethodRegions(t *testing.T) {
	let := func(s string, k api.Expr) api.Expr { return ex(api.OpLet, s, k) }
	rec := func(k ...api.Expr) api.Expr { return ex(api.OpRecover, ": this val", seq(k...)) }
	dog := ex(api.OpNew, "create: main.Dog ref")
	none := "main.Cell send"
	testBodies(t, nil, []bodied{
		{none, rec(let("v: main.Dog ref", dog), local("v")), "main.Dog val; main.Dog ref; None val; main.Dog ref; main.Dog ref", 0, nil},
		{none, seq(let("v: main.Dog ref", dog), rec(local("v"))), "", ErrSend, path(1, 0, 0)}, {none, seq(let("v: main.Dog val", ex(api.OpRecover, ": this val", dog)), rec(local("v"))), "main.Dog val; None val; main.Dog val; main.Dog ref; main.Dog val; main.Dog val; main.Dog val", 0, nil},
		{none, rec(this()), "", ErrSend, path(0, 0)}, {none, rec(let("v: main.Dog ref", dog), rec(local("v"))), "", ErrSend, path(0, 1, 0, 0)}, {none, rec(rec(let("v: main.Dog ref", dog), local("v")), local("v")), "", api.ErrScope, path(0, 1)},
		{none, seq(rec(let("v: main.Dog val", ex(api.OpRecover, ": this val", dog))), local("v")), "", api.ErrScope, path(1)}, {none, seq(rec(let("v: U8 val", u8())), rec(local("v"))), "", api.ErrScope, path(1, 0, 0)},
		{none, seq(ex(api.OpVar, "v: U8 val", u8()), rec(ex(api.OpAssign, "v", u8()))), "", ErrSend, path(1, 0, 0)}, {none, rec(ex(api.OpVar, "v: U8 val", u8()), ex(api.OpAssign, "v", u8())), "U8 val; U8 val; None val; U8 val; U8 val; U8 val", 0, nil},
		{none, rec(ex(api.OpVar, "v: U8 val", rec(u8())), ex(api.OpAssign, "v", u8())), "U8 val; U8 val; None val; U8 val; U8 val; U8 val; U8 val; U8 val", 0, nil}, // the region of a declaration is that around it
		{none, rec(ex(api.OpMatch, "", dog, ex(api.OpCase, "k: main.Dog ref", noExpr(), local("k")))), "main.Dog val; main.Dog ref; main.Dog ref; main.Dog ref; main.Dog ref; -; main.Dog ref", 0, nil},
		{none, rec(ex(api.OpMatch, "", dog, ex(api.OpCase, "k: main.Dog ref", noExpr(), rec(local("k"))))), "", ErrSend, path(0, 0, 1, 1, 0, 0)},
		{none, seq(let("v: main.Dog ref", dog), rec(u8()), local("v")), "main.Dog ref; None val; main.Dog ref; U8 val; U8 val; U8 val; main.Dog ref", 0, nil},
	})
}

// TestConsumed: what stands below none is no part of a body; one that is written small, but is large, is looked at in no long time.
func TestConsumed(t *testing.T) {
	twice := seq(ex(api.OpConsume, "y"))
	for range 60 {
		twice = seq(twice, twice)
	}
	for _, c := range []struct {
		body api.Expr
		want bool
	}{
		{this(), true}, {seq(this(), seq(ex(api.OpConsume, "x"))), false}, {ex(api.OpConsume, "x"), false}, {ex(api.OpConsume, "y"), true}, {seq(ex(api.OpIf, "", yes(), this(), api.Expr{Kids: []api.Expr{ex(api.OpConsume, "x")}})), true},
		{api.Expr{Kids: []api.Expr{ex(api.OpConsume, "x")}}, true}, {local("x"), true}, {ex(api.OpAssign, "x", this()), true}, {twice, true}, {seq(twice, ex(api.OpConsume, "x")), false},
	} {
		p, i, j := with(t, cells(), "main.Cell", "put", func(m *api.Method) { m.Body = c.body })
		if got, e := Begin(p, i, j); e != api.OK || got.Locals[0].Always != c.want {
			t.Errorf("%s: %v, error %d", show(c.body), got.Locals, e)
		}
	}
	p, i, j := with(t, cells(), "main.Cell", "put", func(m *api.Method) { m.Body = twice })
	if _, f, e := Method(p, i, j); e != api.ErrSize || !sameFault(f, Fault{i, j, nil}) {
		t.Errorf("error %d at %v", e, f)
	}
}

// TestMethodAlone: of a program of one entity, whose method is the first one.
func TestMethodAlone(t *testing.T) {
	p := []api.Entity{{Kind: api.Class, Name: "main.Cell", Cap: api.Ref, Fields: []api.Field{{Name: "c", Type: typ("main.Cell ref")}}, Methods: []api.Method{method(api.Fun, "get", api.Box, "main.Cell box", get("c", this()))}}}
	b, f, e := Method(p, 0, 0)
	if e != api.OK || len(b.Types) != 2 || text(b.Types[0]) != "main.Cell box" || !sameFault(f, Fault{}) {
		t.Errorf("%v, error %d at %v", b, e, f)
	}
}

// TestMethodLarge: large bodies with many local variables, and deep ones, take no long time.
func TestMethodLarge(t *testing.T) {
	start := time.Now()
	var l []api.Expr
	for range api.MaxNodes - 1 {
		l = append(l, ex(api.OpVar, "v: U8 val"))
	}
	deep := api.Expr{Op: api.OpThis}
	for range 99 {
		deep = seq(deep)
	}
	for _, body := range []api.Expr{seq(l...), deep, seq(slices.Repeat([]api.Expr{ex(api.OpCall, "get", this())}, 1900)...)} {
		p, i, j := with(t, cells(), "main.Cell", "send", func(m *api.Method) { m.Body = body })
		if b, f, e := Method(p, i, j); e != api.OK || len(b.Types) != len(walked(body, nil)) {
			t.Errorf("error %d at %v", e, f)
		}
	}
	if d := time.Since(start); d > 10*time.Second {
		t.Errorf("%v", d)
	}
}

// TestNothingKept: results share no memory, and arguments are not changed.
func TestNothingKept(t *testing.T) {
	p := cells()
	before := cells()
	a, _, _ := Check(p)
	for _, b := range a.Bodies {
		for k := range b.Types {
			spoil(b.Types[k].Args)
		}
	}
	if !names.Equal(p, before) {
		t.Fatal("the program was changed")
	}
	x := ex(api.OpTuple, "", this(), this())
	kids := typs("(U8 val, U8 val)", "(U8 val | None val)")
	i, j := at(t, p, "main.Cell", "get")
	got, _ := Rule(p, Context{Entity: i, Method: j}, x, kids)
	spoil(got.Args)
	if text(kids[0]) != "(U8 val, U8 val)" || text(kids[1]) != "(U8 val | None val)" {
		t.Error("a result shares the memory of an argument")
	}
}

func spoil(l []api.Type) {
	for i := range l {
		l[i].Name = "spoilt"
		spoil(l[i].Args)
	}
}

// TestMatchLarge: a match with very many cases takes no long time.
func TestMatchLarge(t *testing.T) {
	start := time.Now()
	x := ex(api.OpMatch, "", this())
	for range 1300 {
		x.Kids = append(x.Kids, ex(api.OpCase, ": (main.Sound ref | main.Cell ref | main.Runs tag)", noExpr(), u8()))
	}
	p, i, j := with(t, cells(), "main.Cell", "send", func(m *api.Method) { m.Body = x })
	if b, f, e := Method(p, i, j); e != api.OK || text(b.Types[0]) != "U8 val" {
		t.Errorf("error %d at %v", e, f)
	}
	if d := time.Since(start); d > 10*time.Second {
		t.Errorf("%v", d)
	}
}
