package derive_test

import (
	"reflect"
	"slices"
	"strconv"
	"strings"
	"testing"

	"hackamore/api"
	"hackamore/check"
	. "hackamore/derive"
	"hackamore/flow"
	"hackamore/internal/pony"
	"hackamore/internal/sample"
	"hackamore/subtype"
	"hackamore/types"
)

func typ(s string) api.Type { return pony.Type(s) }

// typs returns the types of a text in which a semicolon stands between two.
func typs(s string) []api.Type {
	if s == "" {
		return nil
	}
	return pony.Types(strings.Split(s, "; ")...)
}

func isZero(t api.Type) bool { return reflect.DeepEqual(t, api.Type{}) }

func ex(op int, s string, kids ...api.Expr) api.Expr { return pony.Expr(op, s, kids...) }

func this() api.Expr             { return ex(api.OpThis, "") }
func u8() api.Expr               { return ex(api.OpLit, "1: U8 val") }
func seq(l ...api.Expr) api.Expr { return ex(api.OpSeq, "", l...) }

func cells() []api.Entity { return pony.Program(pony.Cells) }

func with(t *testing.T, p []api.Entity, entity, method string, change func(*api.Method)) ([]api.Entity, int, int) {
	t.Helper()
	return pony.With(p, entity, method, change)
}

func same(a, b check.Fault) bool {
	return a.Entity == b.Entity && a.Method == b.Method && slices.Equal(a.Path, b.Path)
}

func certified(t *testing.T, p []api.Entity) check.Certificate {
	t.Helper()
	c, f, e := check.Check(p)
	if e != api.OK {
		t.Fatalf("Check: error %d at %v", e, f)
	}
	return c
}

// cell is the program of the example: a class with a field of its own type, and a function that returns it.
func cell() []api.Entity {
	get := api.Method{Kind: api.Fun, Name: "get", Cap: api.Box, Result: typ("main.Cell box"), Body: ex(api.OpGet, "c", this())}
	return []api.Entity{{Kind: api.Class, Name: "main.Cell", Cap: api.Ref, Fields: []api.Field{{Name: "c", Type: typ("main.Cell ref")}}, Methods: []api.Method{get}}}
}

func TestExample(t *testing.T) {
	p := cell()
	c := certified(t, p)
	if s, e := Text(c); s != "body 0 0\nmain.Cell box\nmain.Cell box\n" || e != api.OK {
		t.Errorf("%s, error %d", s, e)
	}
	for _, x := range []struct {
		expr int
		typ  string
		e    api.Errno
	}{{0, "main.Cell box", api.OK}, {0, "main.Cell tag", check.ErrResult}, {0, "main.Cell ref", ErrClaim}, {0, "-", ErrClaim}, {1, "main.Cell tag", check.ErrView}, {1, "main.Cell box", api.OK}, {1, "None val", ErrClaim}, {1, "-", ErrClaim}} {
		d, e := Weaker(c, 0, x.expr, typ(x.typ))
		if e != api.OK {
			t.Fatalf("Weaker: error %d", e)
		}
		want := check.Fault{}
		if x.expr == 1 && x.e == ErrClaim {
			want.Path = []int{0}
		}
		if f, e := Verify(p, d); e != x.e || !same(f, want) {
			t.Errorf("%s for %d: error %d at %v", x.typ, x.expr, e, f)
		}
	}
}

func TestVerify(t *testing.T) {
	p := cells()
	c := certified(t, p)
	if f, e := Verify(p, c); e != api.OK || !same(f, check.Fault{}) {
		t.Fatalf("error %d at %v", e, f)
	}
	if f, e := Verify(nil, check.Certificate{}); e != api.OK || !same(f, check.Fault{}) {
		t.Errorf("of nothing: error %d at %v", e, f)
	}
	l := c.Bodies
	n := len(l)
	swapped := slices.Clone(l)
	swapped[0], swapped[1] = swapped[1], swapped[0]
	moved := slices.Clone(l)
	moved[n-1].Method++
	none, nobody := pony.At(p, "main.Sound", "m")
	for name, bodies := range map[string][]check.Body{
		"none": nil, "one less": l[1:], "the last one less": l[:n-1], "one twice": append(slices.Clone(l), l[n-1]), "one twice in place": append(slices.Clone(l[:1]), l...),
		"swapped": swapped, "moved": moved, "one for what has no body": append(slices.Clone(l), check.Body{Entity: none, Method: nobody}),
	} {
		if f, e := Verify(p, check.Certificate{Bodies: bodies}); e != ErrBodies || !same(f, check.Fault{}) {
			t.Errorf("%s: error %d at %v", name, e, f)
		}
	}
	wrong := slices.Clone(p)
	wrong[5].Cap = 0
	if f, e := Verify(wrong, check.Certificate{}); e != api.ErrForm || !same(f, check.Fault{Entity: 5, Method: -1}) {
		t.Errorf("a wrong program: error %d at %v", e, f)
	}
	two := slices.Clone(l)
	two[3].Types, two[7].Types = nil, nil
	if f, e := Verify(p, check.Certificate{Bodies: two}); e != ErrBodies || !same(f, check.Fault{Entity: l[3].Entity, Method: l[3].Method}) {
		t.Errorf("two wrong ones: error %d at %v", e, f)
	}
}

// claimed is a body of a method of the program of cells, and the types that are claimed for it.
type claimed struct {
	where string
	body  api.Expr
	types string
	e     api.Errno
	path  []int
}

func testClaims(t *testing.T, change func(*api.Method), l []claimed) {
	t.Helper()
	for _, c := range l {
		entity, name, _ := strings.Cut(c.where, " ")
		p, i, j := with(t, cells(), entity, name, func(m *api.Method) {
			m.Partial = false
			if change != nil {
				change(m)
			}
			m.Body = c.body
		})
		want := check.Fault{Entity: i, Method: j, Path: c.path}
		if c.e == api.OK {
			want = check.Fault{}
		}
		if f, e := Body(p, check.Body{Entity: i, Method: j, Types: typs(c.types)}); e != c.e || !same(f, want) {
			t.Errorf("%v in %s, with %s: error %d at %v; not %d at %v", c.body, c.where, c.types, e, f, c.e, c.path)
		}
	}
}

const inRef, inBox, inNone = "main.Cell mine", "main.Cell get", "main.Cell send"

// TestBody: the errors of one body, in order.
func TestBody(t *testing.T) {
	p := cells()
	for _, c := range [][2]int{{-1, 0}, {len(p), 0}, {0, -1}, {0, len(p[0].Methods)}} {
		if f, e := Body(p, check.Body{Entity: c[0], Method: c[1], Types: typs("-")}); e != api.ErrRange || !same(f, check.Fault{}) {
			t.Errorf("%v: error %d at %v", c, e, f)
		}
	}
	testClaims(t, func(m *api.Method) {
		m.Cap, m.Params = api.Tag, []api.Param{{Name: "x", Type: typ("(this -> main.Cell ref)")}}
	}, []claimed{{inRef, ex(api.OpThis, "x"), "", api.ErrCap, nil}, {inRef, api.Expr{}, "U8 val", api.ErrCap, nil}})
	bad, none := ex(api.OpLocal, "nobody"), api.Expr{}
	testClaims(t, nil, []claimed{
		{inRef, seq(this(), ex(api.OpThis, "x")), "", api.ErrForm, []int{1}}, {inRef, ex(api.OpCase, ": U8 val", none, this()), "-", api.ErrForm, nil},
		{inRef, seq(bad, this()), "", ErrBodies, nil}, {inRef, seq(bad, this()), "-; -", ErrBodies, nil}, {inRef, seq(bad, this()), "-; -; -; -", ErrBodies, nil}, {inRef, this(), "", ErrBodies, nil},
		{inRef, none, "", api.OK, nil}, {inRef, none, "-", api.OK, nil}, {inRef, none, "-; -", ErrBodies, nil}, {inRef, none, "main.Cell ref", ErrBodies, nil}, {inRef, api.Expr{Text: "x", Kids: []api.Expr{bad}}, "-", api.OK, nil}, {inRef, api.Expr{Text: "x", Kids: []api.Expr{bad}}, "-; -", ErrBodies, nil},
		{inRef, seq(this(), bad), "main.Cell ref; main.Cell ref; main.Cell ref", api.ErrScope, []int{1}}, {inRef, ex(api.OpGet, "none", seq(this(), bad)), "-; -; main.Cell tag; -", api.ErrScope, []int{0, 1}}, {inRef, seq(this(), bad), "-; U8 val; -", ErrClaim, []int{0}},
		{inRef, this(), "main.Cell ref", api.OK, nil}, {inRef, this(), "main.Cell box", check.ErrResult, nil}, {inRef, this(), "Any tag", check.ErrResult, nil}, {inRef, this(), "main.Cell iso", ErrClaim, nil}, {inRef, this(), "-", ErrClaim, nil}, {inRef, u8(), "U8 val", check.ErrResult, nil},
		{inRef, ex(api.OpReturn, "", this()), "-; main.Cell ref", api.OK, nil}, {inRef, ex(api.OpReturn, "", this()), "main.Cell ref; main.Cell ref", api.OK, nil}, {inRef, ex(api.OpReturn, "", this()), "U8 val; main.Cell ref", check.ErrResult, nil}, {inRef, ex(api.OpReturn, "", this()), "-; main.Cell box", check.ErrResult, nil},
		{inNone, u8(), "U8 tag", api.OK, nil}, {inNone, u8(), "(None val | U8 val)", api.OK, nil}, {"main.Act go", u8(), "U8 val", api.OK, nil},
		{inNone, ex(api.OpIf, "", ex(api.OpLit, "true: Bool val"), u8(), none), "(None val | U8 val); Bool val; U8 val; -", api.OK, nil}, {inNone, ex(api.OpIf, "", ex(api.OpLit, "true: Bool val"), u8(), none), "(None val | U8 val); Bool val; U8 val; None val", ErrClaim, []int{2}},
		{inNone, ex(api.OpIf, "", ex(api.OpLit, "true: Bool val"), u8(), none), "U8 val; Bool val; U8 val; -", ErrClaim, nil}, {inNone, ex(api.OpIf, "", ex(api.OpLit, "true: Bool val"), u8(), none), "(None val | U8 val); Bool box; U8 val; -", api.ErrType, nil},
		{inNone, seq(ex(api.OpError, ""), u8()), "U8 val; -; U8 val", flow.ErrPartial, []int{0}}, {inNone, seq(u8(), ex(api.OpBreak, "")), "U8 val; U8 val; U8 val", flow.ErrLoop, []int{1}}, {inNone, seq(u8(), ex(api.OpBreak, "")), "-; U16 val; U8 val", ErrClaim, []int{0}},
		{inRef, seq(ex(api.OpError, ""), u8()), "U8 val; -; U8 val", check.ErrResult, nil}, {inNone, ex(api.OpTry, "", u8(), api.Expr{Text: "x", Kids: []api.Expr{bad, bad}}, none), "(None val | U8 val); U8 val; -; -", api.ErrForm, nil},
	})
	testClaims(t, func(m *api.Method) { m.Result = typ("(this tag -> main.Cell ref)") }, []claimed{{inRef, this(), "main.Cell ref", check.ErrResult, nil}, {inRef, ex(api.OpError, ""), "-", check.ErrResult, nil}})
	testClaims(t, func(m *api.Method) { m.Result = typ("None val") }, []claimed{{inRef, u8(), "U8 val", api.OK, nil}})
	testClaims(t, func(m *api.Method) { m.Result = api.Type{} }, []claimed{{inRef, u8(), "U8 val", api.OK, nil}})
	testClaims(t, func(m *api.Method) { m.Result = typ("(this -> main.Cell ref)") }, []claimed{{inBox, this(), "main.Cell box", api.OK, nil}})
}

// TestTypesThemselves: types that are wrong by themselves, ahead of all claims, in the order of the walk.
func TestTypesThemselves(t *testing.T) {
	p, i, j := with(t, cells(), "main.Cell", "send", func(m *api.Method) { m.Body = seq(seq(u8(), u8()), ex(api.OpLocal, "nobody")) })
	wrong := api.Type{Kind: api.TypeName}
	for _, c := range []struct {
		at   int
		typ  api.Type
		e    api.Errno
		path []int
	}{
		{0, wrong, api.ErrForm, nil}, {1, wrong, api.ErrForm, []int{0}}, {3, wrong, api.ErrForm, []int{0, 1}}, {4, api.Type{Name: "x"}, api.ErrForm, []int{1}}, {4, api.Type{Args: []api.Type{{}}}, api.ErrForm, []int{1}}, {2, api.Type{Cap: 1}, api.ErrForm, []int{0, 0}}, {3, api.Type{Args: slices.Repeat([]api.Type{{}}, 400)}, api.ErrForm, []int{0, 1}},
		{2, api.Type{Kind: api.TypeTuple, Args: slices.Repeat([]api.Type{{}}, 400)}, api.ErrSize, []int{0, 0}}, {2, api.Type{Args: []api.Type{}}, ErrClaim, []int{0, 0}}, {2, typ("$A"), ErrClaim, []int{0, 0}}, {4, typ("U8 val"), api.ErrScope, []int{1}},
	} {
		l := typs("U8 val; U8 val; U8 val; U8 val; -")
		l[c.at] = c.typ
		if f, e := Body(p, check.Body{Entity: i, Method: j, Types: l}); e != c.e || !same(f, check.Fault{Entity: i, Method: j, Path: c.path}) {
			t.Errorf("%d: error %d at %v", c.at, e, f)
		}
	}
	l := []api.Type{{}, wrong, {}, {Kind: api.TypeTuple, Args: slices.Repeat([]api.Type{{}}, 400)}, {}}
	if f, e := Body(p, check.Body{Entity: i, Method: j, Types: l}); e != api.ErrForm || !slices.Equal(f.Path, []int{0}) {
		t.Errorf("two: error %d at %v", e, f)
	}
}

// TestContexts: a certificate goes through recover blocks, cases and declarations as layer 13 does.
func TestContexts(t *testing.T) {
	let := func(s string, k api.Expr) api.Expr { return ex(api.OpLet, s, k) }
	rec := func(k ...api.Expr) api.Expr { return ex(api.OpRecover, ": this val", seq(k...)) }
	dog, v, none := ex(api.OpNew, "create: main.Dog ref"), ex(api.OpLocal, "v"), api.Expr{}
	match := func(guard, body api.Expr) api.Expr {
		return ex(api.OpMatch, "", ex(api.OpSet, "i", this(), ex(api.OpConsume, "x")), ex(api.OpCase, "k: main.Cell iso", guard, body))
	}
	took := "main.Cell iso^; main.Cell ref; main.Cell iso^; "
	testClaims(t, nil, []claimed{
		{inNone, rec(let("v: main.Dog ref", dog), v), "main.Dog val; main.Dog ref; None val; main.Dog ref; main.Dog ref", api.OK, nil}, {inNone, seq(let("v: main.Dog ref", dog), rec(v)), "-; None val; main.Dog ref; -; -; -", check.ErrSend, []int{1, 0, 0}},
		{inNone, seq(rec(let("v: U8 val", u8())), v), "-; None val; None val; None val; U8 val; -", api.ErrScope, []int{1}}, {inNone, seq(rec(let("v: U8 val", u8())), rec(v)), "-; None val; None val; None val; U8 val; -; -; -", api.ErrScope, []int{1, 0, 0}}, {inNone, seq(v, let("v: U8 val", u8())), "-; -; -; -", api.ErrScope, []int{0}},
		{inNone, let("v: U8 val", seq(v, u8())), "-; -; -; -", api.ErrScope, []int{0, 0}}, {inNone, rec(let("v: main.Dog ref", dog), rec(v)), "-; -; None val; main.Dog ref; -; -; -", check.ErrSend, []int{0, 1, 0, 0}}, {inNone, seq(rec(u8()), rec(this())), "-; U8 val; U8 val; U8 val; -; -; -", check.ErrSend, []int{1, 0, 0}},
		{inNone, seq(ex(api.OpVar, "v: U8 val", u8()), ex(api.OpAssign, "v", u8()), u8()), "U8 val; None val; U8 val; U8 val; U8 val; U8 val", api.OK, nil}, {inNone, seq(ex(api.OpVar, "v: U8 val"), ex(api.OpAssign, "v", u8()), u8()), "U8 val; None val; U8 val; U8 val; U8 val", ErrClaim, []int{1}}, {inNone, seq(ex(api.OpVar, "v: U8 val", u8()), ex(api.OpAssign, "v", u8()), ex(api.OpConsume, "v")), "U8 val; None val; U8 val; U8 val; U8 val; U8 val", ErrClaim, []int{1}},
		{inNone, match(none, ex(api.OpConsume, "k")), "main.Cell iso^; " + took + "main.Cell iso^; -; main.Cell iso^", api.OK, nil}, {inNone, match(ex(api.OpCall, "alone", ex(api.OpConsume, "k")), u8()), "-; " + took + "-; -; main.Cell iso!; -", check.ErrView, []int{1, 0}}, {inNone, match(ex(api.OpCall, "alone", ex(api.OpConsume, "k")), u8()), "-; " + took + "-; -; main.Cell iso^; -", ErrClaim, []int{1, 0, 0}},
		{inNone, match(ex(api.OpAssign, "k", u8()), u8()), "-; " + took + "-; -; U8 val; -", check.ErrPlace, []int{1, 0}}, {inNone, seq(match(none, u8()), ex(api.OpLocal, "k")), "main.Cell iso!; U8 val; " + took + "U8 val; -; U8 val; main.Cell iso!", flow.ErrUnset, []int{1}},
	})
}

// TestEqual: a type that is the very one that the rule gives is right, also where there would be too many questions.
func TestEqual(t *testing.T) {
	wide := api.Type{Kind: api.TypeUnion}
	for i := range api.MaxList {
		wide.Args = append(wide.Args, types.Named("a.C"+strconv.Itoa(i), api.Val, nil))
	}
	p := cell()
	p[0].Fields[0].Type, p[0].Methods[0].Result = wide, api.Type{}
	if subtype.Is(p, wide, wide) {
		t.Fatal("the questions are not too many")
	}
	if f, e := Body(p, check.Body{Types: []api.Type{wide, typ("main.Cell box")}}); e != api.OK {
		t.Errorf("error %d at %v", e, f)
	}
	turned := api.Type{Kind: api.TypeUnion, Args: slices.Clone(wide.Args)}
	slices.Reverse(turned.Args)
	if f, e := Body(p, check.Body{Types: []api.Type{turned, typ("main.Cell box")}}); e != ErrClaim {
		t.Errorf("error %d at %v", e, f)
	}
}

// TestPartial: which calls may end with an error is told by the claimed types.
func TestPartial(t *testing.T) {
	part, cat := ex(api.OpCall, "part", this(), u8()), ex(api.OpCall, "m", ex(api.OpNew, "create: main.Dog ref"))
	make := ex(api.OpNew, "make: main.Cell ref", ex(api.OpGet, "d", this()))
	partial := func(m *api.Method) { m.Partial = true }
	testClaims(t, nil, []claimed{{inNone, seq(cat, part), "U8 val; U8 val; main.Dog ref; U8 val; main.Cell ref; U8 val", flow.ErrPartial, []int{1}}, {inNone, make, "main.Cell iso^; main.Cell val; main.Cell ref", flow.ErrPartial, nil}})
	testClaims(t, partial, []claimed{{inNone, part, "U8 val; main.Cell box; U8 val", api.OK, nil}, {inNone, make, "main.Cell iso; main.Cell val; main.Cell ref", api.OK, nil}, {inNone, cat, "U8 val; main.Dog ref", flow.ErrPartial, nil}})
	// A call by a type that is claimed less, whose method is Partial where that of the entity is not.
	p, i, j := with(t, cells(), "main.Sound", "m", partial)
	p, _, _ = with(t, p, "main.Cell", "send", func(m *api.Method) { m.Body = cat })
	for claim, want := range map[string]api.Errno{"main.Dog ref": api.OK, "main.Sound ref": flow.ErrPartial} {
		i, j = pony.At(p, "main.Cell", "send")
		if _, e := Body(p, check.Body{Entity: i, Method: j, Types: typs("U8 val; " + claim)}); e != want {
			t.Errorf("%s: error %d", claim, e)
		}
	}
}

// trials hands on programs of cells in which a method has a body by chance, and that are taken.
func trials(t *testing.T, seed uint64, n int, try func(p []api.Entity, c check.Certificate, body int, pick func(int) int)) {
	t.Helper()
	pick := sample.Source(seed)
	m := pony.BodyMaker{Pick: pick}
	base := cells()
	taken := 0
	for range n {
		name := []string{"get", "mine", "put", "share", "half", "id", "part", "send"}[pick(8)]
		p, i, j := with(t, base, "main.Cell", name, func(x *api.Method) {
			x.Partial = pick(2) == 0
			x.Body = m.Body(*x, 4)
		})
		c, _, e := check.Check(p)
		if e != api.OK {
			continue
		}
		taken++
		try(p, c, slices.IndexFunc(c.Bodies, func(b check.Body) bool { return b.Entity == i && b.Method == j }), pick)
	}
	if taken < n/10 {
		t.Errorf("%d of %d taken", taken, n)
	}
}

// TestComplete: P14.2, P14.4 and P14.5 of the certificates that are found.
func TestComplete(t *testing.T) {
	trials(t, 1, 400, func(p []api.Entity, c check.Certificate, body int, pick func(int) int) {
		if f, e := Verify(p, c); e != api.OK {
			t.Fatalf("%v: error %d at %v", p[c.Bodies[body].Entity].Methods[c.Bodies[body].Method].Body, e, f)
		}
		s, e := Text(c)
		d, e2 := Parse(s)
		if e != api.OK || e2 != api.OK || !reflect.DeepEqual(c, d) {
			t.Fatalf("%s: error %d, %d", s, e, e2)
		}
		at := pick(len(c.Bodies[body].Types))
		if d, e := Weaker(c, body, at, c.Bodies[body].Types[at]); e != api.OK || !reflect.DeepEqual(c, d) {
			t.Fatalf("Weaker: error %d", e)
		}
	})
}

// TestTexts: P14.2 of programs of texts.
func TestTexts(t *testing.T) {
	for _, text := range pony.Texts() {
		p := pony.Program(text)
		if f, e := Verify(p, certified(t, p)); e != api.OK {
			t.Errorf("error %d at %v of %s", e, f, text)
		}
	}
}

// TestRight: P14.3 and P14.5: of certificates in which some types are others.
func TestRight(t *testing.T) {
	took, refused := 0, 0
	trials(t, 2, 500, func(p []api.Entity, c check.Certificate, body int, pick func(int) int) {
		b := c.Bodies[body]
		for range 8 {
			claims := slices.Clone(b.Types)
			for range 1 + pick(2) {
				at := pick(len(claims))
				claims[at] = other(claims[at], claims, pick)
			}
			bodies := slices.Clone(c.Bodies)
			bodies[body].Types = claims
			f, e := Verify(p, check.Certificate{Bodies: bodies})
			if g, e2 := Body(p, bodies[body]); e != e2 || !same(f, g) {
				t.Fatalf("Verify %d at %v, Body %d at %v", e, f, e2, g)
			}
			if e != api.OK {
				refused++
				continue
			}
			took++
			isRight(t, p, bodies[body])
		}
	})
	if took < 100 || refused < 100 {
		t.Errorf("%d taken, %d refused", took, refused)
	}
}

// other returns a type that is claimed in the place of another one: a weaker one, or any.
func other(t api.Type, l []api.Type, pick func(int) int) api.Type {
	switch pick(4) {
	case 0:
		t.Cap = api.Iso + pick(6)
	case 1:
		return l[pick(len(l))]
	case 2:
		if t.Kind != 0 {
			return api.Type{Kind: api.TypeUnion, Args: []api.Type{t, typ("None val")}}
		}
		return typ("U8 val")
	case 3:
		t.Mark = pick(3)
	}
	return t
}

// isRight fails where something is written by what does not write, or takes what must not be stored, or a behaviour gets what must not be sent.
func isRight(t *testing.T, p []api.Entity, b check.Body) {
	t.Helper()
	n := 0
	var walk func(x api.Expr) api.Type
	walk = func(x api.Expr) api.Type {
		own := b.Types[n]
		n++
		if x.Op == 0 {
			return own
		}
		var kids []api.Type
		for _, k := range x.Kids {
			kids = append(kids, walk(k))
		}
		switch x.Op {
		case api.OpSet:
			c := kids[0].Cap
			if kids[0].Mark == api.Aliased && c == api.Iso || kids[0].Mark == api.Aliased && c == api.Trn || c != api.Iso && c != api.Trn && c != api.Ref || !types.Storable(c, kids[1]) {
				t.Fatalf("%v is written with %v", kids[0], kids[1])
			}
		case api.OpCall:
			if m, _ := subtype.Lookup(p, kids[0], x.Text); m.Kind == api.Be {
				for i, k := range kids[1:] {
					if !types.Sendable(m.Params[i].Type) || !isZero(k) && !types.Sendable(k) {
						t.Fatalf("%v is sent", k)
					}
				}
			}
		}
		return own
	}
	walk(p[b.Entity].Methods[b.Method].Body)
}
