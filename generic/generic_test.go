package generic_test

import (
	"reflect"
	"slices"
	"strconv"
	"strings"
	"testing"

	"hackamore/api"
	. "hackamore/generic"
	"hackamore/names"
	"hackamore/types"
)

// typ returns the type with a text.
func typ(s string) api.Type {
	t, e := types.Parse(s)
	if e != api.OK {
		panic("Parse of " + s + ": error " + e.Error())
	}
	return t
}

func typs(l ...string) []api.Type {
	var out []api.Type
	for _, s := range l {
		out = append(out, typ(s))
	}
	return out
}

func text(t api.Type) string {
	s, e := types.Text(t)
	if e != api.OK {
		return "error " + e.Error()
	}
	return s
}

// set returns the type Any with a set of capabilities.
func set(c int) api.Type { return api.Type{Kind: api.TypeName, Name: "Any", Cap: c} }

func entity(kind int, name string, provides []api.Type, l ...api.Method) api.Entity {
	return api.Entity{Kind: kind, Name: name, Cap: api.Ref, Provides: provides, Methods: l}
}

// over returns an entity with type parameters of the type Any #any, or Any tag.
func over(e api.Entity, l ...string) api.Entity {
	for _, name := range l {
		e.Bounds = append(e.Bounds, api.Bound{Name: name, Type: set(api.CapAny)})
	}
	return e
}

func fields(e api.Entity, l ...string) api.Entity {
	for i, s := range l {
		e.Fields = append(e.Fields, api.Field{Name: "f" + strconv.Itoa(i), Type: typ(s)})
	}
	return e
}

func fun(name, result string, params ...string) api.Method {
	m := api.Method{Kind: api.Fun, Name: name, Cap: api.Box}
	if result != "" {
		m.Result = typ(result)
	}
	for i, p := range params {
		m.Params = append(m.Params, api.Param{Name: "p" + strconv.Itoa(i), Type: typ(p)})
	}
	return m
}

// bound returns a method with type parameters, whose types are those of a text `M: Any tag`.
func bound(m api.Method, l ...string) api.Method {
	for _, s := range l {
		name, of, _ := strings.Cut(s, ": ")
		m.Bounds = append(m.Bounds, api.Bound{Name: name, Type: typ(of)})
	}
	return m
}

func body(m api.Method, x api.Expr) api.Method {
	m.Body = x
	return m
}

// unit is a body that tells itself from others.
func unit(name string) api.Expr {
	return api.Expr{Op: api.OpUnit, Types: []api.Type{{Kind: api.TypeName, Name: name, Cap: api.Val}}}
}

func call(name string, l ...string) api.Expr {
	return api.Expr{Op: api.OpCall, Text: name, Types: typs(l...), Kids: []api.Expr{{Op: api.OpThis}}}
}

func seq(l ...api.Expr) api.Expr { return api.Expr{Op: api.OpSeq, Kids: l} }

// program returns an actor main.Main whose constructor has a body, behind some builtin entities and others.
func program(x api.Expr, l ...api.Entity) []api.Entity {
	p := []api.Entity{entity(api.Interface, "Any", nil), entity(api.Primitive, "U32", nil), entity(api.Primitive, "None", nil)}
	create := api.Method{Kind: api.New, Name: "create", Cap: api.Tag, Body: x}
	return append(append(p, l...), entity(api.Actor, "main.Main", nil, create))
}

// tooLarge are programs that are larger than they may be.
func tooLarge() [][]api.Entity {
	nodes := seq(slices.Repeat([]api.Expr{{Op: api.OpThis}}, api.MaxNodes)...)
	deep := api.Expr{Op: api.OpThis}
	for range api.MaxTree {
		deep = seq(deep)
	}
	many := api.MaxList + 1
	return [][]api.Entity{
		make([]api.Entity, api.MaxUnits+1), {{Bounds: make([]api.Bound, many)}}, {{Provides: make([]api.Type, many)}}, {{Fields: make([]api.Field, many)}}, {{Methods: make([]api.Method, many)}},
		{{Methods: []api.Method{{Bounds: make([]api.Bound, many)}}}}, {{Methods: []api.Method{{Params: make([]api.Param, many)}}}}, {{}, {Methods: []api.Method{{}, {Body: nodes}}}}, {{Methods: []api.Method{{Body: deep}}}},
	}
}

func TestTooLarge(t *testing.T) {
	for i, p := range tooLarge() {
		codes := []api.Errno{Fulfils(p, make([]api.Bound, 3), nil)}
		m, s, e := Find(p, "x", "y")
		codes = append(codes, e)
		whole, e := Whole(p)
		codes = append(codes, e)
		one, e := Instance(p, "x", []api.Type{{}})
		codes = append(codes, e)
		edges, e := Edges(p)
		codes = append(codes, e)
		ends, l, e := Ends(p)
		codes = append(codes, e)
		all, e := Reify(p, "x")
		codes = append(codes, e)
		if slices.ContainsFunc(codes, func(e api.Errno) bool { return e != api.ErrSize }) {
			t.Errorf("program %d: errors %v", i, codes)
		}
		if !reflect.DeepEqual(m, api.Method{}) || s != "" || len(whole) > 0 || !reflect.DeepEqual(one, api.Entity{}) || len(edges) > 0 || ends || len(l) > 0 || len(all) > 0 {
			t.Errorf("program %d: results beside the error", i)
		}
		if len(p) > 1 || len(p[0].Methods) != 1 {
			continue
		}
		if v, e := Variant(p[0].Methods[0], nil); e != api.ErrSize || !reflect.DeepEqual(v, api.Method{}) {
			t.Errorf("Variant %d: %v, error %d", i, v, e)
		}
	}
}

func TestFulfils(t *testing.T) {
	p := program(api.Expr{}, entity(api.Trait, "T", nil), entity(api.Class, "C", typs("T val")), over(entity(api.Trait, "Same", nil), "A"), entity(api.Class, "D", typs("Same[D ref] ref")))
	any := func(c int) []api.Bound { return []api.Bound{{Name: "A", Type: set(c)}} }
	is := func(l ...string) []api.Bound {
		var out []api.Bound
		for i, s := range l {
			out = append(out, api.Bound{Name: string(rune('A' + i)), Type: typ(s)})
		}
		return out
	}
	wrong := api.Type{Kind: api.TypeName}
	large := api.Type{Kind: api.TypeName, Name: "C", Cap: api.Ref, Args: slices.Repeat(typs("C ref"), 400)}
	trait := set(api.CapRead)
	trait.Name = "T"
	for i, x := range []struct {
		bounds []api.Bound
		args   []api.Type
		want   api.Errno
	}{
		{nil, nil, api.OK}, {any(api.CapAny), nil, api.ErrArg}, {nil, []api.Type{wrong}, api.ErrArg}, {is("T ref", "T ref"), []api.Type{large, wrong}, api.ErrSize}, {is("T ref", "T ref"), []api.Type{typ("$A"), wrong}, api.ErrForm},
		{is("T ref"), typs("$A"), ErrUnbound}, {is("T ref", "U32 val"), typs("U32 val", "C[(this -> $A)] val"), ErrUnbound}, {any(api.CapAny), typs("this"), ErrBound}, {any(api.CapAny), typs("this ref"), ErrBound}, {is("this ref"), typs("this ref"), api.OK},
		{any(api.CapAny), typs("C iso"), api.OK}, {any(api.CapAny), typs("Gone box"), api.OK}, {any(api.CapRead), typs("C ref"), api.OK}, {any(api.CapRead), typs("C iso"), ErrBound}, {any(api.CapRead), typs("C trn!"), api.OK}, {any(api.CapRead), typs("(C ref | U32 val)"), api.OK}, {any(api.CapRead), typs("(C ref | U32 tag)"), ErrBound},
		{any(api.CapSend), typs("C iso^"), api.OK}, {any(api.CapSend), typs("C box"), ErrBound}, {any(api.CapShare), typs("C iso!"), api.OK}, {any(api.CapShare), typs("C iso"), ErrBound}, {any(api.CapAlias), typs("C trn"), ErrBound}, {any(api.CapAlias), typs("C tag"), api.OK}, {any(api.CapAny), typs("(C ref, C val)"), ErrBound}, {any(api.CapAny), typs("(this -> C ref)"), ErrBound},
		{[]api.Bound{{Name: "A", Type: trait}}, typs("C ref"), api.OK}, {[]api.Bound{{Name: "A", Type: trait}}, typs("U32 val"), ErrBound}, {[]api.Bound{{Name: "A", Type: trait}}, typs("C iso"), ErrBound}, {is("T ref"), typs("C ref"), api.OK}, {is("T ref"), typs("C val"), ErrBound}, {is("T box"), typs("C val"), api.OK},
		{is("Same[$A] ref"), typs("D ref"), api.OK}, {is("Same[$A] ref"), typs("C ref"), ErrBound}, {is("T ref", "Same[$B] ref"), typs("C ref", "D ref"), api.OK}, {is("$B", "T ref"), typs("C ref", "C ref"), api.OK}, {is("$B", "T ref"), typs("C ref", "T ref"), api.OK}, {is("$B", "T ref"), typs("T ref", "C ref"), ErrBound}, {is("T ref", "T box"), typs("U32 val", "C tag"), ErrBound},
		{[]api.Bound{{Name: "A", Type: wrong}}, typs("C ref"), api.ErrForm}, {[]api.Bound{{Name: "A", Type: api.Type{Kind: api.TypeName, Cap: api.CapRead}}}, typs("C iso"), ErrBound}, {[]api.Bound{{Name: "A", Type: api.Type{Kind: api.TypeName, Cap: api.CapRead}}}, typs("C ref"), api.ErrForm}, {[]api.Bound{{Name: "A", Type: api.Type{Kind: api.TypeParam, Name: "A", Cap: api.CapRead}}}, typs("C ref"), api.ErrForm},
		{is("($A -> C ref)"), typs("(C ref, C ref)"), api.ErrForm}, {is("T ref", "($A -> C ref)"), typs("U32 val", "C ref"), ErrBound},
	} {
		if e := Fulfils(p, x.bounds, x.args); e != x.want {
			t.Errorf("Fulfils %d: error %d, want %d", i, e, x.want)
		}
	}
}

func TestNamed(t *testing.T) {
	long := strings.Repeat("n", 290)
	wrong, large := api.Type{Kind: api.TypeName}, api.Type{Kind: api.TypeName, Args: make([]api.Type, 400)}
	for i, x := range []struct {
		name string
		args []api.Type
		want string
		code api.Errno
	}{
		{"main.Cell", typs("U32 val"), "main.Cell[U32 val]", api.OK}, {"m", nil, "m", api.OK}, {"", typs("B val", "(X val | (A val | X val))"), "[B val, (A val | X val)]", api.OK}, {"C", typs("C[U32 val^] ref!"), "C[C[U32 val] ref]", api.OK}, {"C", typs("(this val -> A ref)", "this"), "C[A val, this]", api.OK},
		{"C", typs(`"a b" val`), `C["a b" val]`, api.OK}, {long + "0123456789", nil, long + "0123456789", api.OK}, {long + "0123456789x", nil, "", api.ErrLarge}, {long + "0", typs("A val^"), long + "0[A val]", api.OK}, {long + "012", typs("A val"), long + "012[A val]", api.OK}, {long + "0123", typs("A val"), "", api.ErrLarge},
		{"C", typs("$A"), "", ErrUnbound}, {"C", []api.Type{typ("$A"), wrong}, "", ErrUnbound}, {"C", []api.Type{wrong, typ("$A")}, "", api.ErrForm}, {"C", []api.Type{large, wrong}, "", api.ErrSize}, {"C", typs("(this tag -> A ref)", "$A"), "", api.ErrCap}, {"C", typs("(this ref -> $A)"), "", ErrUnbound}, {long + "0123456789x", typs("$A"), "", ErrUnbound},
	} {
		if s, e := Named(x.name, x.args); s != x.want || e != x.code {
			t.Errorf("Named %d: %s, error %d, want %s, error %d", i, s, e, x.want, x.code)
		}
	}
}

func TestInstance(t *testing.T) {
	cell := fields(over(entity(api.Class, "main.Cell", typs("List[$A] ref")), "A", "B"), "$A", "(this -> $B)")
	cell.Cap, cell.Fields[0].Let = api.Iso, true
	get := bound(body(fun("get", "$M", "$A!"), api.Expr{Op: api.OpVar, Text: "x", Types: typs("$B", "$M")}), "M: List[$A] ref", "A: Any tag")
	cell.Methods = []api.Method{get}
	p := program(api.Expr{}, over(entity(api.Trait, "List", nil), "A"), cell, entity(api.Class, "main.Cell", nil))
	got, e := Instance(p, "main.Cell", typs("U32 iso", "(X ref | (U32 val | X ref))"))
	want := api.Entity{Kind: api.Class, Name: "main.Cell[U32 iso, (U32 val | X ref)]", Cap: api.Iso, Provides: typs("List[U32 iso] ref")}
	want.Fields = []api.Field{{Name: "f0", Let: true, Type: typ("U32 iso")}, {Name: "f1", Type: typ("(this -> (X ref | (U32 val | X ref)))")}}
	want.Methods = []api.Method{bound(body(fun("get", "$M", "U32 iso!"), api.Expr{Op: api.OpVar, Text: "x", Types: typs("(X ref | (U32 val | X ref))", "$M")}), "M: List[U32 iso] ref")}
	if e != api.OK || !names.Equal([]api.Entity{got}, []api.Entity{want}) {
		t.Errorf("Instance: %v, error %d, want %v", got, e, want)
	}
	tuple := typ("(U32 val, U32 val)")
	at := fields(over(entity(api.Class, "At", nil), "A"), "($A -> U32 ref)")
	for i := range at.Bounds {
		at.Bounds[i].Type = tuple
	}
	bad := fields(over(entity(api.Class, "Bad", append(typs("Any ref"), api.Type{})), "A"), "U32 val")
	methods := over(entity(api.Class, "Methods", nil, fun("m", ""), body(fun("n", ""), api.Expr{Types: []api.Type{{Kind: 88}}})), "A")
	open := over(entity(api.Class, "Open", nil, fun("m", "")), "A")
	open.Methods[0].Bounds = []api.Bound{{Name: "M", Type: set(api.CapAny)}}
	p = append(p, at, bad, methods, open, entity(api.Class, strings.Repeat("n", 301), nil), over(entity(api.Class, strings.Repeat("n", 298), nil), "A"))
	for i, x := range []struct {
		name string
		args []api.Type
		want api.Errno
	}{
		{"Gone", []api.Type{{}}, api.ErrNone}, {"List", nil, api.ErrArg}, {"List", []api.Type{{}}, api.ErrForm}, {"List", typs("$A"), ErrUnbound}, {"List", typs("this"), ErrBound}, {"At", typs("U32 val"), ErrBound}, {"At", []api.Type{tuple}, api.ErrForm},
		{"Bad", typs("U32 val"), api.ErrForm}, {"Methods", typs("U32 val"), api.ErrForm}, {"Open", typs("U32 val"), api.ErrForm}, {strings.Repeat("n", 301), nil, api.ErrLarge}, {strings.Repeat("n", 298), typs("A val"), api.ErrLarge}, {"U32", nil, api.OK},
	} {
		if got, e := Instance(p, x.name, x.args); e != x.want || e != api.OK && !reflect.DeepEqual(got, api.Entity{}) {
			t.Errorf("Instance %d: %v, error %d, want %d", i, got, e, x.want)
		}
	}
}

func TestVariant(t *testing.T) {
	m := bound(body(fun("m", "$A", "C[$B!] ref", "$X"), api.Expr{Op: api.OpVar, Types: typs("$A ref")}), "A: Any tag", "B: C[$A] ref")
	got, e := Variant(m, typs("U32 iso", "(this -> C ref)"))
	want := body(fun("m[U32 iso, (this -> C ref)]", "U32 iso", "C[(this -> C ref)] ref", "$X"), api.Expr{Op: api.OpVar, Types: typs("U32 ref")})
	if e != api.OK || !reflect.DeepEqual(got, want) {
		t.Errorf("Variant: %v, error %d, want %v", got, e, want)
	}
	if got, e := Variant(fun("m", "U32 val"), nil); e != api.OK || !reflect.DeepEqual(got, fun("m", "U32 val")) {
		t.Errorf("Variant of what has no parameters: %v, error %d", got, e)
	}
	long := bound(fun(strings.Repeat("n", 290), "($A -> U32 val)"), "A: Any tag")
	for i, x := range []struct {
		m    api.Method
		args []api.Type
		want api.Errno
	}{
		{m, nil, api.ErrArg}, {fun("m", ""), typs("$A"), api.ErrArg}, {m, []api.Type{typ("$A"), {}}, api.ErrForm}, {m, typs("$A", "U32 val"), ErrUnbound}, {m, typs("this", "(this tag -> U32 ref)"), api.ErrCap}, {long, typs("(U32 val, U32 val)"), api.ErrLarge},
		{bound(fun("m", "($A -> U32 val)"), "A: Any tag"), typs("(U32 val, U32 val)"), api.ErrForm}, {bound(fun("m", "C[$A] ref"), "A: Any tag"), typs(strings.Repeat("C[", 18) + "U32 val" + strings.Repeat("] ref", 18)), api.OK}, {bound(fun("m", "C[C[$A] ref] ref"), "A: Any tag"), typs(strings.Repeat("C[", 18) + "U32 val" + strings.Repeat("] ref", 18)), api.ErrSize},
	} {
		if got, e := Variant(x.m, x.args); e != x.want || e != api.OK && !reflect.DeepEqual(got, api.Method{}) {
			t.Errorf("Variant %d: %v, error %d, want %d", i, got, e, x.want)
		}
	}
}
