package names

import (
	"strings"
	"testing"

	"hackamore/api"
	"hackamore/internal/sample"
)

func typ(name string) api.Type { return named(name, api.Val) }

func param(name string) api.Type { return api.Type{Kind: api.TypeParam, Name: name} }

func compound(kind int, args ...api.Type) api.Type { return api.Type{Kind: kind, Args: args} }

func op(op int, kids ...api.Expr) api.Expr { return api.Expr{Op: op, Kids: kids} }

func texted(op int, text string, kids ...api.Expr) api.Expr {
	return api.Expr{Op: op, Text: text, Kids: kids}
}

func typed(op int, text string, t api.Type, kids ...api.Expr) api.Expr {
	return api.Expr{Op: op, Text: text, Types: []api.Type{t}, Kids: kids}
}

func good() api.Entity {
	return api.Entity{Kind: api.Class, Name: "C", Cap: api.Ref, Bounds: []api.Bound{{Name: "A", Type: typ("Any")}}, Provides: []api.Type{typ("T")},
		Fields: []api.Field{{Name: "f", Type: typ("U8")}}, Methods: []api.Method{{Kind: api.Fun, Name: "m", Cap: api.Box, Result: typ("U8"),
			Bounds: []api.Bound{{Name: "B", Type: typ("Any")}}, Params: []api.Param{{Name: "x", Type: typ("U8")}}}}}
}

// with returns the good entity after a change.
func changed(change func(e *api.Entity, m *api.Method)) []api.Entity {
	e := good()
	change(&e, &e.Methods[0])
	return []api.Entity{e}
}

func TestCheckEntities(t *testing.T) {
	many := make([]api.Entity, api.MaxUnits)
	for i := range many {
		many[i] = good()
		many[i].Name = strings.Repeat("x", i+1)
	}
	if e := Check(many); e != api.OK {
		t.Errorf("MaxUnits entities: error %d", e)
	}
	for i, p := range [][]api.Entity{nil, {good()}, changed(func(e *api.Entity, m *api.Method) { e.Kind = api.Interface }), changed(func(e *api.Entity, m *api.Method) { e.Bounds, e.Provides, e.Fields, e.Methods = nil, nil, nil, nil }), changed(func(e *api.Entity, m *api.Method) { m.Kind, m.Cap = api.Be, api.Tag }),
		changed(func(e *api.Entity, m *api.Method) { e.Fields = make64(e.Fields[0], 64) }), changed(func(e *api.Entity, m *api.Method) { m.Params = make64(m.Params[0], 64) })} {
		if e := Check(p); e != api.OK {
			t.Errorf("program %d: error %d", i, e)
		}
	}
	for i, x := range []struct {
		want api.Errno
		p    []api.Entity
	}{
		{api.ErrFull, append(many, many[0])}, {api.ErrTwice, []api.Entity{good(), good()}}, {api.ErrTwice, []api.Entity{good(), {Name: "C"}}}, {api.ErrForm, []api.Entity{{Name: "D"}, good(), good()}},
		{api.ErrFull, changed(func(e *api.Entity, m *api.Method) { e.Fields, e.Kind = make64(e.Fields[0], 65), 0 })}, {api.ErrFull, changed(func(e *api.Entity, m *api.Method) { e.Methods = make64(e.Methods[0], 65) })}, {api.ErrFull, changed(func(e *api.Entity, m *api.Method) { e.Bounds = make64(e.Bounds[0], 65) })},
		{api.ErrFull, changed(func(e *api.Entity, m *api.Method) { e.Provides = make64(e.Provides[0], 65) })}, {api.ErrFull, changed(func(e *api.Entity, m *api.Method) { m.Params = make64(m.Params[0], 65) })}, {api.ErrFull, changed(func(e *api.Entity, m *api.Method) { m.Bounds = make64(m.Bounds[0], 65) })},
		{api.ErrForm, changed(func(e *api.Entity, m *api.Method) { e.Kind = 0 })}, {api.ErrForm, changed(func(e *api.Entity, m *api.Method) { e.Kind = 6 })}, {api.ErrForm, changed(func(e *api.Entity, m *api.Method) { e.Cap = 0 })}, {api.ErrForm, changed(func(e *api.Entity, m *api.Method) { e.Cap = api.CapRead })}, {api.ErrForm, changed(func(e *api.Entity, m *api.Method) { e.Name = "" })},
		{api.ErrForm, changed(func(e *api.Entity, m *api.Method) { e.Bounds[0].Name = "" })}, {api.ErrForm, changed(func(e *api.Entity, m *api.Method) { e.Fields[0].Name = "" })}, {api.ErrForm, changed(func(e *api.Entity, m *api.Method) { e.Fields[0].Type = api.Type{} })}, {api.ErrForm, changed(func(e *api.Entity, m *api.Method) { e.Provides[0].Kind = 9 })},
		{api.ErrForm, changed(func(e *api.Entity, m *api.Method) { m.Kind = 0 })}, {api.ErrForm, changed(func(e *api.Entity, m *api.Method) { m.Kind = 4 })}, {api.ErrForm, changed(func(e *api.Entity, m *api.Method) { m.Cap = 0 })}, {api.ErrForm, changed(func(e *api.Entity, m *api.Method) { m.Cap = api.CapAny })}, {api.ErrForm, changed(func(e *api.Entity, m *api.Method) { m.Name = "" })},
		{api.ErrForm, changed(func(e *api.Entity, m *api.Method) { m.Result = api.Type{} })}, {api.ErrForm, changed(func(e *api.Entity, m *api.Method) { m.Params[0].Name = "" })}, {api.ErrForm, changed(func(e *api.Entity, m *api.Method) { m.Params[0].Type.Name = "" })}, {api.ErrForm, changed(func(e *api.Entity, m *api.Method) { m.Bounds[0].Type.Cap = 12 })},
		{api.ErrForm, changed(func(e *api.Entity, m *api.Method) { m.Body = api.Expr{Text: "x"} })}, {api.ErrForm, changed(func(e *api.Entity, m *api.Method) { m.Cap, m.Body = 0, deepBody(101) })}, {api.ErrSize, changed(func(e *api.Entity, m *api.Method) { m.Body = deepBody(101) })}, {api.OK, changed(func(e *api.Entity, m *api.Method) { m.Body = deepBody(100) })},
		{api.ErrSize, changed(func(e *api.Entity, m *api.Method) { m.Body = op(99, make64(op(99), 4000)...) })}, {api.ErrForm, changed(func(e *api.Entity, m *api.Method) { m.Body = op(99, make64(op(99), 3999)...) })}, {api.OK, changed(func(e *api.Entity, m *api.Method) { m.Body = op(api.OpSeq, make64(op(api.OpThis), 3999)...) })},
	} {
		if e := Check(x.p); e != x.want {
			t.Errorf("program %d: error %d, want %d", i, e, x.want)
		}
	}
}

func make64[T any](x T, n int) []T {
	var l []T
	for range n {
		l = append(l, x)
	}
	return l
}

func deepBody(depth int) api.Expr {
	x := op(api.OpThis)
	for range depth - 1 {
		x = op(api.OpReturn, x)
	}
	return x
}

func TestCheckTypes(t *testing.T) {
	val := func(x api.Type, c, mark int) api.Type { x.Cap, x.Mark = c, mark; return x }
	sets := []api.Type{val(typ("U8"), api.CapRead, 0), val(typ("U8"), api.CapAny, 0), val(param("A"), api.CapSend, 0)}
	right := []api.Type{typ("U8"), val(typ("U8"), api.Iso, api.Ephemeral), val(typ("U8"), api.Tag, api.Aliased), param("A"), val(param("A"), api.Iso, api.Aliased), compound(api.TypeUnion, typ("A"), typ("B")), compound(api.TypeBoth, typ("A"), typ("B"), typ("C")), compound(api.TypeTuple, param("A"), typ("B")),
		compound(api.TypeArrow, api.Type{Kind: api.TypeSelf}, typ("A")), compound(api.TypeArrow, param("A"), typ("A")), compound(api.TypeArrow, val(api.Type{Kind: api.TypeSelf}, api.Box, api.Ephemeral), typ("A")), {Kind: api.TypeSelf, Cap: api.Iso}, {Kind: api.TypeName, Name: "A", Cap: api.Ref, Args: []api.Type{typ("B"), param("C")}}}
	wrong := []api.Type{{}, {Kind: 8, Name: "A", Cap: 1}, {Kind: -1}, typ(""), named("A", 0), named("A", -1), named("A", 12), val(typ("A"), api.Val, 3), val(typ("A"), api.Val, -1), param(""), val(param("A"), -1, 0), val(param("A"), 12, 0), {Kind: api.TypeParam, Name: "A", Args: []api.Type{typ("B")}}, compound(api.TypeUnion), compound(api.TypeUnion, typ("A")),
		compound(api.TypeBoth, typ("A")), compound(api.TypeTuple, typ("A")), compound(api.TypeTuple, typ("A"), api.Type{}), {Kind: api.TypeUnion, Name: "x", Args: []api.Type{typ("A"), typ("B")}}, {Kind: api.TypeUnion, Cap: 1, Args: []api.Type{typ("A"), typ("B")}}, {Kind: api.TypeTuple, Mark: 1, Args: []api.Type{typ("A"), typ("B")}}, compound(api.TypeArrow, typ("A"), typ("B")),
		compound(api.TypeArrow, param("A")), compound(api.TypeArrow, param("A"), typ("A"), typ("A")), {Kind: api.TypeArrow, Cap: 1, Args: []api.Type{param("A"), typ("B")}}, compound(api.TypeArrow, param(""), typ("A")), {Kind: api.TypeSelf, Name: "x"}, {Kind: api.TypeSelf, Args: []api.Type{typ("A")}}, {Kind: api.TypeSelf, Cap: api.CapAny}, {Kind: api.TypeSelf, Mark: 3},
		{Kind: api.TypeName, Name: "A", Cap: api.Ref, Args: []api.Type{sets[0]}}, compound(api.TypeUnion, sets[0], typ("A"))}
	place := func(x api.Type, i int) []api.Entity {
		return changed(func(e *api.Entity, m *api.Method) {
			*[]*api.Type{&e.Bounds[0].Type, &m.Bounds[0].Type, &e.Provides[0], &e.Fields[0].Type, &m.Params[0].Type, &m.Result}[i] = x
			m.Body = typed(api.OpVar, "x", typ("U8"))
			if i == 5 {
				m.Body.Types[0] = x
			}
		})
	}
	for i := range 6 {
		for j, x := range right {
			if e := Check(place(x, i)); e != api.OK {
				t.Errorf("type %d at the place %d: error %d", j, i, e)
			}
		}
		for j, x := range wrong {
			if e := Check(place(x, i)); e != api.ErrForm {
				t.Errorf("wrong type %d at the place %d: error %d", j, i, e)
			}
		}
		for j, x := range sets {
			want := api.ErrForm
			if i < 2 {
				want = api.OK
			}
			if e := Check(place(x, i)); e != want {
				t.Errorf("set %d at the place %d: error %d", j, i, e)
			}
		}
	}
}

func TestCheckBodies(t *testing.T) {
	x, self := texted(api.OpLocal, "x"), api.Type{Kind: api.TypeSelf, Cap: api.Iso}
	kase := typed(api.OpCase, "", typ("A"), api.Expr{}, x)
	right := []api.Expr{
		{}, typed(api.OpLit, "1", typ("U8")), typed(api.OpLit, "", typ("String")), typed(api.OpLit, "true", typ("Bool")), x, op(api.OpThis), texted(api.OpGet, "f", x), texted(api.OpSet, "f", x, x), typed(api.OpVar, "v", typ("A")), typed(api.OpVar, "v", typ("A"), x), typed(api.OpLet, "v", typ("A")), typed(api.OpLet, "v", typ("A"), x), texted(api.OpAssign, "v", x),
		texted(api.OpConsume, "v"), op(api.OpSeq), op(api.OpSeq, x), op(api.OpIf, x, x, x), op(api.OpWhile, x, x, x), op(api.OpMatch, x, kase, typed(api.OpCase, "v", typ("A"), x, x)), op(api.OpTry, x, x, x), op(api.OpError), op(api.OpReturn, x), op(api.OpBreak), op(api.OpContinue), texted(api.OpCall, "m", x), texted(api.OpCall, "m", x, x, x), typed(api.OpCall, "m", typ("A"), x),
		typed(api.OpNew, "create", typ("A")), typed(api.OpNew, "create", typ("A"), x, x), {Op: api.OpNew, Text: "create", Types: []api.Type{typ("A"), param("B")}}, typed(api.OpRecover, "", self, x), op(api.OpTuple, x, x), texted(api.OpItem, "0", x), texted(api.OpItem, "12", x), op(api.OpIs, x, x), typed(api.OpUnit, "", typ("None")),
	}
	wrong := []api.Expr{
		op(-1), op(27), op(0, x), texted(api.OpLit, "1"), {Op: api.OpLit, Text: "1", Types: []api.Type{typ("U8"), typ("U8")}}, typed(api.OpLit, "1", typ("X")), typed(api.OpLit, "1", param("U8")), typed(api.OpLit, "1", typ("U8"), x), texted(api.OpLocal, ""), texted(api.OpLocal, "x", x), typed(api.OpLocal, "x", typ("A")), texted(api.OpThis, "x"), op(api.OpThis, x), texted(api.OpGet, "", x), texted(api.OpGet, "f"), texted(api.OpGet, "f", x, x),
		texted(api.OpSet, "f", x), texted(api.OpSet, "", x, x), texted(api.OpVar, "v"), typed(api.OpVar, "", typ("A")), typed(api.OpLet, "v", typ("A"), x, x), typed(api.OpLet, "v", api.Type{}), texted(api.OpAssign, "v"), texted(api.OpAssign, "", x), texted(api.OpConsume, ""), texted(api.OpConsume, "v", x), texted(api.OpSeq, "x"), op(api.OpIf, x, x), op(api.OpIf, x, x, x, x), op(api.OpIf, x, x, api.Expr{}), op(api.OpWhile, x, x), op(api.OpWhile, x, api.Expr{}, x),
		op(api.OpMatch), op(api.OpMatch, kase), op(api.OpMatch, x, x), op(api.OpMatch, x, kase, x), kase, op(api.OpSeq, kase), op(api.OpMatch, x, typed(api.OpCase, "", typ("A"), x)), op(api.OpMatch, x, typed(api.OpCase, "", typ("A"), x, api.Expr{})), op(api.OpMatch, x, op(api.OpCase, x, x)), op(api.OpMatch, api.Expr{}, kase), op(api.OpMatch, x, typed(api.OpCase, "", typ("A"), kase, x)), op(api.OpTry, x), op(api.OpTry, x, api.Expr{}, x), op(api.OpError, x),
		op(api.OpReturn), op(api.OpReturn, x, x), texted(api.OpBreak, "x"), op(api.OpContinue, x), texted(api.OpCall, "m"), texted(api.OpCall, "", x), {Op: api.OpNew, Text: "create"}, typed(api.OpNew, "", typ("A")), typed(api.OpNew, "create", param("A")), typed(api.OpRecover, "", typ("A"), x), typed(api.OpRecover, "", api.Type{Kind: api.TypeSelf}, x), typed(api.OpRecover, "", self), op(api.OpRecover, x), typed(api.OpRecover, "x", self, x), op(api.OpTuple, x), texted(api.OpItem, "", x),
		texted(api.OpItem, "x", x), texted(api.OpItem, "01", x), texted(api.OpItem, "-1", x), texted(api.OpItem, "0"), texted(api.OpItem, "9223372036854775808", x), op(api.OpIs, x), op(api.OpUnit), typed(api.OpUnit, "x", typ("A")), typed(api.OpUnit, "", param("A")), typed(api.OpUnit, "", typ("A"), x), op(api.OpSeq, op(api.OpSeq, api.Expr{})), typed(api.OpCall, "m", named("A", api.CapAny), x),
	}
	for i, b := range right {
		if e := Check(changed(func(e *api.Entity, m *api.Method) { m.Body = b })); e != api.OK {
			t.Errorf("body %d, %v: error %d", i, b, e)
		}
	}
	for i, b := range wrong {
		if e := Check(changed(func(e *api.Entity, m *api.Method) { m.Body = b })); e != api.ErrForm {
			t.Errorf("wrong body %d, %v: error %d", i, b, e)
		}
	}
	ring := make([]api.Expr, 1)
	ring[0] = op(api.OpReturn, ring...)
	ring[0].Kids = ring
	if e := Check(changed(func(e *api.Entity, m *api.Method) { m.Body = ring[0] })); e != api.ErrSize {
		t.Errorf("a ring: error %d", e)
	}
}

func TestEqual(t *testing.T) {
	full := func() []api.Entity {
		return changed(func(e *api.Entity, m *api.Method) {
			m.Body = typed(api.OpLet, "v", compound(api.TypeUnion, typ("A"), typ("B")), texted(api.OpLocal, "x"))
		})
	}
	if !Equal(full(), full()) || !Equal(nil, []api.Entity{}) || Equal(full(), nil) || Equal(full(), append(full(), full()...)) {
		t.Error("Equal")
	}
	empty := changed(func(e *api.Entity, m *api.Method) { e.Fields = []api.Field{} })
	if !Equal(empty, changed(func(e *api.Entity, m *api.Method) { e.Fields = nil })) {
		t.Error("an empty list is not nil")
	}
	for i, change := range []func(e *api.Entity, m *api.Method){
		func(e *api.Entity, m *api.Method) { e.Kind++ }, func(e *api.Entity, m *api.Method) { e.Name += "x" }, func(e *api.Entity, m *api.Method) { e.Cap++ }, func(e *api.Entity, m *api.Method) { e.Bounds[0].Name = "" }, func(e *api.Entity, m *api.Method) { e.Bounds[0].Type.Mark = 1 }, func(e *api.Entity, m *api.Method) { e.Provides = nil }, func(e *api.Entity, m *api.Method) { e.Provides[0].Cap++ },
		func(e *api.Entity, m *api.Method) { e.Fields[0].Let = true }, func(e *api.Entity, m *api.Method) { e.Fields[0].Name = "" }, func(e *api.Entity, m *api.Method) { e.Fields[0].Type.Name = "" }, func(e *api.Entity, m *api.Method) { e.Methods = nil }, func(e *api.Entity, m *api.Method) { m.Kind++ }, func(e *api.Entity, m *api.Method) { m.Name = "" }, func(e *api.Entity, m *api.Method) { m.Cap++ },
		func(e *api.Entity, m *api.Method) { m.Bounds = nil }, func(e *api.Entity, m *api.Method) { m.Params[0].Name = "" }, func(e *api.Entity, m *api.Method) { m.Params[0].Type.Kind++ }, func(e *api.Entity, m *api.Method) { m.Result.Mark = 1 }, func(e *api.Entity, m *api.Method) { m.Partial = true }, func(e *api.Entity, m *api.Method) { m.Body.Op++ }, func(e *api.Entity, m *api.Method) { m.Body.Text = "" },
		func(e *api.Entity, m *api.Method) { m.Body.Kids[0].Text = "" }, func(e *api.Entity, m *api.Method) { m.Body.Types[0].Args[1].Cap++ }, func(e *api.Entity, m *api.Method) { m.Body.Types = nil }, func(e *api.Entity, m *api.Method) { m.Body.Kids = nil },
	} {
		p := full()
		change(&p[0], &p[0].Methods[0])
		if Equal(p, full()) || Equal(full(), p) {
			t.Errorf("change %d is not seen", i)
		}
	}
}

// TestCheckAnything checks P1 and P2 on programs by chance.
func TestCheckAnything(t *testing.T) {
	pick := sample.Source(12)
	var anyType func(depth int) api.Type
	anyType = func(depth int) api.Type {
		x := api.Type{Kind: pick(9) - 1, Name: []string{"", "A", "U8"}[pick(3)], Cap: pick(13) - 1, Mark: pick(4) - 1}
		for depth > 0 && pick(2) == 0 {
			x.Args = append(x.Args, anyType(depth-1))
		}
		return x
	}
	var anyExpr func(depth int) api.Expr
	anyExpr = func(depth int) api.Expr {
		x := api.Expr{Op: pick(30) - 1, Text: []string{"", "x", "0"}[pick(3)]}
		for pick(3) == 0 {
			x.Types = append(x.Types, anyType(1))
		}
		for depth > 0 && pick(3) > 0 {
			x.Kids = append(x.Kids, anyExpr(depth-1))
		}
		return x
	}
	for range 5000 {
		p := changed(func(e *api.Entity, m *api.Method) {
			m.Result, e.Fields[0].Type = anyType(2), typ("U8")
			if pick(2) == 0 {
				m.Result, m.Body = typ("U8"), anyExpr(2)
			}
		})
		e, f := Check(p), Check(p)
		if e != f || e != api.OK && e != api.ErrForm || !Equal(p, p) {
			t.Fatalf("%v: errors %d %d", p, e, f)
		}
	}
}
