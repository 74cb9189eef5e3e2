package check_test

import (
	"slices"
	"strconv"
	"strings"
	"testing"
	"time"

	"hackamore/api"
	. "hackamore/check"
	"hackamore/subtype"
)

// method returns a method; its parameters are the texts of types.
func method(kind int, name string, c int, result string, body api.Expr, params ...string) api.Method {
	m := api.Method{Kind: kind, Name: name, Cap: c, Result: typ(result), Body: body}
	for i, p := range params {
		m.Params = append(m.Params, api.Param{Name: "p" + strconv.Itoa(i), Type: typ(p)})
	}
	return m
}

// many returns as many fields, or methods, as are asked for, with names of their own.
func manyFields(n int) []api.Field {
	var l []api.Field
	for i := range n {
		l = append(l, api.Field{Name: "f" + strconv.Itoa(i), Type: typ("U8 val")})
	}
	return l
}

func manyMethods(n int) []api.Method {
	var l []api.Method
	for i := range n {
		l = append(l, method(api.Fun, "m"+strconv.Itoa(i), api.Box, "U8 val", u8()))
	}
	return l
}

// TestProgramEntities: an entity is changed, and the error is at it.
func TestProgramEntities(t *testing.T) {
	wrong := api.Type{Kind: api.TypeName}
	for _, c := range []struct {
		name, entity string
		change       func(*api.Entity)
		e            api.Errno
	}{
		{"nothing", "main.Dog", func(e *api.Entity) {}, api.OK},
		{"kind 0", "main.Dog", func(e *api.Entity) { e.Kind = 0 }, api.ErrForm},
		{"kind 6", "main.Dog", func(e *api.Entity) { e.Kind = 6 }, api.ErrForm},
		{"cap 0", "main.Dog", func(e *api.Entity) { e.Cap = 0 }, api.ErrForm},
		{"cap #read", "main.Dog", func(e *api.Entity) { e.Cap = api.CapRead }, api.ErrForm},
		{"bounds", "main.Dog", func(e *api.Entity) { e.Bounds = []api.Bound{{Name: "A", Type: typ("Any tag")}} }, api.ErrForm},
		{"64 fields", "main.Dog", func(e *api.Entity) { e.Fields = manyFields(64); e.Methods = e.Methods[1:] }, api.OK},
		{"65 fields", "main.Dog", func(e *api.Entity) { e.Fields = manyFields(65) }, api.ErrSize},
		{"64 methods", "main.P", func(e *api.Entity) { e.Methods = manyMethods(64) }, api.OK},
		{"65 methods", "main.P", func(e *api.Entity) { e.Methods = manyMethods(65) }, api.ErrSize},
		{"64 provides", "main.Dog", func(e *api.Entity) { e.Provides = slices.Repeat(typs("main.Named ref"), 64) }, api.OK},
		{"65 provides", "main.Dog", func(e *api.Entity) { e.Provides = slices.Repeat(typs("main.Named ref"), 65) }, api.ErrSize},
		{"form ahead of size", "main.Dog", func(e *api.Entity) { e.Cap = 0; e.Fields = manyFields(65) }, api.ErrForm},
		{"size ahead of provides", "main.Dog", func(e *api.Entity) { e.Provides = typs("main.P ref"); e.Fields = manyFields(65) }, api.ErrSize},

		{"provides an interface", "main.Dog", func(e *api.Entity) { e.Provides = typs("main.Sound tag", "main.Named iso^") }, api.OK},
		{"provides a class", "main.Dog", func(e *api.Entity) { e.Provides = typs("main.Cat val") }, ErrEntity},
		{"provides an actor", "main.Dog", func(e *api.Entity) { e.Provides = typs("main.Act tag") }, ErrEntity},
		{"provides a primitive", "main.Dog", func(e *api.Entity) { e.Provides = typs("main.P val") }, ErrEntity},
		{"provides nothing", "main.Dog", func(e *api.Entity) { e.Provides = typs("main.Nothing val") }, ErrEntity},
		{"provides a union", "main.Dog", func(e *api.Entity) { e.Provides = typs("(main.Named ref | main.Sound ref)") }, ErrEntity},
		{"provides arguments", "main.Dog", func(e *api.Entity) { e.Provides = typs("main.Named[U8 val] ref") }, ErrEntity},
		{"provides a parameter", "main.Dog", func(e *api.Entity) { e.Provides = typs("$A") }, ErrEntity},
		{"provides this", "main.Dog", func(e *api.Entity) { e.Provides = typs("this ref") }, ErrEntity},
		{"provides what is no type", "main.Dog", func(e *api.Entity) {
			e.Provides = []api.Type{{Kind: api.TypeName, Name: "main.Named", Cap: 7}}
		}, ErrEntity},
		{"an interface provides an interface", "main.Sound", func(e *api.Entity) { e.Provides = typs("Any tag") }, api.OK},
		{"an interface provides a trait", "main.Sound", func(e *api.Entity) { e.Provides = typs("main.Named ref") }, ErrEntity},
		{"a trait provides an interface", "main.Named", func(e *api.Entity) { e.Provides = typs("main.Sound ref") }, api.OK},
		{"itself", "main.Named", func(e *api.Entity) { e.Provides = typs("main.Named ref") }, ErrEntity},
		{"an interface provides itself", "main.Sound", func(e *api.Entity) { e.Provides = typs("main.Sound ref") }, ErrEntity},

		{"fields of a trait", "main.Named", func(e *api.Entity) { e.Fields = manyFields(1) }, ErrEntity},
		{"fields of an interface", "main.Sound", func(e *api.Entity) { e.Fields = manyFields(1) }, ErrEntity},
		{"fields of a primitive", "main.P", func(e *api.Entity) { e.Fields = manyFields(1) }, ErrEntity},
		{"fields of an actor", "main.Main", func(e *api.Entity) { e.Fields = manyFields(2) }, api.OK},
		{"a field twice", "main.Main", func(e *api.Entity) { e.Fields = append(manyFields(2), manyFields(1)...) }, api.ErrTwice},
		{"a field twice, ahead of its form", "main.Main", func(e *api.Entity) {
			e.Fields = append(manyFields(2), api.Field{Name: "f1", Type: wrong})
		}, api.ErrTwice},
		{"a field's form, ahead of another one's name", "main.Main", func(e *api.Entity) {
			e.Fields = append(manyFields(2), api.Field{Name: "g", Type: wrong}, api.Field{Name: "f1"})
		}, api.ErrForm},
		{"a provided class ahead of fields", "main.Dog", func(e *api.Entity) { e.Provides = typs("main.Cat val"); e.Fields = []api.Field{{}} }, ErrEntity},
	} {
		p, i := withEntity(t, cells(), c.entity, c.change)
		if f, e := Program(p); e != c.e || e != api.OK && !sameFault(f, Fault{i, -1, nil}) || e == api.OK && !sameFault(f, Fault{}) {
			t.Errorf("%s: error %d at %v, not %d at %d", c.name, e, f, c.e, i)
		}
		if _, f, e := Check(p); c.e != api.OK && (e != c.e || !sameFault(f, Fault{i, -1, nil})) {
			t.Errorf("Check of %s: error %d at %v", c.name, e, f)
		}
	}
}

// TestProgramFields: the types that fields may have.
func TestProgramFields(t *testing.T) {
	for _, c := range []struct {
		typ string
		e   api.Errno
	}{
		{"main.Cell iso^", api.OK}, {"(main.Cell iso | None val)", api.OK}, {"(main.Cell iso, (U8 val, main.Cell trn))", api.OK}, {"this ref", api.OK}, {"no.Entity ref", api.OK},
		{"this", api.ErrForm}, {"$A", api.ErrForm}, {"(this ref -> main.Cell ref)", api.ErrForm}, {"Array[(this -> main.Cell ref)] ref", api.ErrForm}, {"Array[$A] ref", api.ErrForm}, {"", api.ErrForm},
		{"(main.Sound ref & main.Named ref)", api.OK}, {"(main.Sound ref & main.Named val)", api.ErrForm}, {"(main.Sound ref & main.Named ref!)", api.ErrForm},
		{"Array[(main.Sound ref & main.Named box)] ref", api.ErrForm}, {"(main.Sound ref & (main.Named ref | main.P val))", api.ErrForm}, {"(main.Sound ref & (main.Named ref, main.P box))", api.ErrForm},
		{"(main.Sound ref & Array[main.Cell val] ref)", api.OK}, {"((main.Sound ref & main.Named ref) | (main.Sound val & main.Named val))", api.OK}, {"(U8 val, (main.Sound ref & main.Named val))", api.ErrForm},
	} {
		p, i := withEntity(t, cells(), "main.Main", func(e *api.Entity) { e.Fields = []api.Field{{Name: "f", Type: typ(c.typ)}} })
		if f, e := Program(p); e != c.e || e != api.OK && !sameFault(f, Fault{i, -1, nil}) {
			t.Errorf("%s: error %d at %v", c.typ, e, f)
		}
	}
}

// TestProgramMethods: a method is put into an entity, and the error is at it.
func TestProgramMethods(t *testing.T) {
	partial := func(m api.Method) api.Method { m.Partial = true; return m }
	named := func(m api.Method, names ...string) api.Method {
		for i, n := range names {
			m.Params[i].Name = n
		}
		return m
	}
	bounded := method(api.Fun, "x", api.Box, "", u8())
	bounded.Bounds = []api.Bound{{Name: "A", Type: typ("Any tag")}}
	sixty := func(n int) api.Method {
		return method(api.Fun, "x", api.Box, "", u8(), strings.Split(strings.TrimSuffix(strings.Repeat("U8 val,", n), ","), ",")...)
	}
	none := noExpr()
	for _, c := range []struct {
		entity string
		m      api.Method
		e      api.Errno
	}{
		{"main.Dog", method(api.Fun, "x", api.Box, "", u8(), "U8 val", "main.Cell ref"), api.OK},
		{"main.Dog", method(api.Fun, "m", api.Box, "", u8()), api.ErrTwice}, {"main.Dog", method(9, "m", api.Box, "", u8()), api.ErrTwice},
		{"main.Dog", method(0, "x", api.Box, "", u8()), api.ErrForm}, {"main.Dog", method(4, "x", api.Box, "", u8()), api.ErrForm},
		{"main.Dog", method(api.Fun, "x", 0, "", u8()), api.ErrForm}, {"main.Dog", method(api.Fun, "x", api.CapAny, "", u8()), api.ErrForm}, {"main.Dog", bounded, api.ErrForm},
		{"main.Dog", sixty(64), api.OK}, {"main.Dog", sixty(65), api.ErrForm},
		{"main.Dog", named(method(api.Fun, "x", api.Box, "", u8(), "U8 val", "U8 val"), "a", "a"), api.ErrTwice},
		{"main.Dog", named(method(api.Fun, "x", api.Box, "", u8(), "$A", "U8 val"), "a", "a"), api.ErrTwice},
		{"main.Dog", named(method(api.Fun, "x", 0, "", u8(), "U8 val", "U8 val"), "a", "a"), api.ErrForm},
		{"main.Dog", method(api.Fun, "x", api.Box, "$A", u8()), api.ErrForm}, {"main.Dog", method(api.Fun, "x", api.Box, "", u8(), ""), api.ErrForm},
		{"main.Dog", method(api.Fun, "x", api.Box, "", u8(), "Array[$A] ref"), api.ErrForm}, {"main.Dog", method(api.Fun, "x", api.Box, "", u8(), "($A -> U8 val)"), api.ErrForm},
		{"main.Dog", method(api.Fun, "x", api.Box, "(main.Sound ref & main.Named val)", u8()), api.ErrForm}, {"main.Dog", method(api.Fun, "x", api.Box, "", u8(), "(main.Sound ref & main.Named ref)"), api.OK},
		{"main.Dog", method(api.Fun, "x", api.Box, "(this -> main.Cell ref)", u8(), "(this -> main.Cell ref)"), api.OK}, {"main.Dog", method(api.Fun, "x", api.Tag, "(this -> main.Cell ref)", u8()), api.ErrForm},
		{"main.Dog", method(api.Fun, "x", api.Tag, "", u8(), "(this -> main.Cell ref)"), api.ErrForm}, {"main.Dog", method(api.Fun, "x", api.Tag, "(this ref -> main.Cell ref)", u8()), api.OK}, {"main.Dog", method(api.Fun, "x", api.Box, "this", u8()), api.OK},
		{"main.Dog", method(api.Fun, "x", api.Iso, "None val", none), ErrPlace}, {"main.Dog", method(api.New, "x", api.Ref, "", none), ErrPlace}, {"main.Act", method(api.Be, "x", api.Tag, "", none), ErrPlace},
		{"main.Named", method(api.Fun, "x", api.Iso, "None val", u8()), api.OK}, {"main.Sound", method(api.Fun, "x", api.Iso, "None val", u8()), ErrPlace}, {"main.Sound", method(api.Fun, "x", api.Iso, "None val", none), api.OK},
		{"Stringable", method(api.Fun, "x", api.Box, "None val", u8()), ErrPlace}, {"String", method(api.Fun, "x", api.Box, "None val", none), api.OK}, {"String", method(api.Fun, "x", api.Box, "None val", u8()), api.OK},
		{"Array[main.Cell ref]", method(api.Fun, "x", api.Box, "None val", none), api.OK}, {"main.P", method(api.Fun, "x", api.Box, "None val", none), ErrPlace},

		{"main.Named", method(api.New, "x", api.Ref, "", u8()), ErrEntity}, {"main.Sound", method(api.New, "x", api.Ref, "", none), ErrEntity},
		{"main.Dog", method(api.Be, "x", api.Tag, "", u8()), ErrEntity}, {"main.P", method(api.Be, "x", api.Tag, "", u8()), ErrEntity}, {"main.Sound", method(api.Be, "x", api.Tag, "", none), api.OK}, {"main.Lonely", method(api.Be, "x", api.Box, "", u8()), api.OK},
		{"main.Act", method(api.New, "x", api.Tag, "main.Act tag^", u8()), api.OK}, {"main.Act", method(api.New, "x", api.Ref, "", u8()), ErrEntity}, {"main.P", method(api.New, "x", api.Val, "", u8()), api.OK}, {"main.P", method(api.New, "x", api.Ref, "", u8()), ErrEntity},
		{"main.Dog", method(api.New, "x", api.Tag, "", u8()), api.OK}, {"main.Dog", partial(method(api.New, "x", api.Ref, "", u8())), api.OK}, {"main.P", partial(method(api.New, "x", api.Val, "", u8())), api.OK},
		{"main.Act", partial(method(api.New, "x", api.Tag, "", u8())), ErrEntity}, {"main.Act", partial(method(api.Be, "x", api.Tag, "", u8())), ErrEntity}, {"main.Act", partial(method(api.Fun, "x", api.Tag, "", u8())), api.OK},
		{"main.Act", method(api.Be, "x", api.Tag, "None val", u8()), api.OK}, {"main.Act", method(api.Be, "x", api.Tag, "U8 val", u8()), ErrEntity}, {"main.Act", method(api.Be, "x", api.Tag, "None val^", u8()), ErrEntity},

		{"main.Act", method(api.Be, "x", api.Tag, "", u8(), "U8 val", "main.Cell ref"), ErrSend}, {"main.Act", method(api.Be, "x", api.Tag, "", u8(), "main.Cell iso", "main.Cell tag", "main.Cell iso!", "main.Cell iso^"), api.OK},
		{"main.Act", method(api.Be, "x", api.Tag, "", u8(), "main.Cell trn"), ErrSend}, {"main.Act", method(api.Be, "x", api.Tag, "", u8(), "(this val -> main.Cell ref)"), ErrSend}, {"main.Act", method(api.New, "x", api.Tag, "", u8(), "main.Cell box"), ErrSend},
		{"main.Act", method(api.Fun, "x", api.Tag, "", u8(), "main.Cell box"), api.OK}, {"main.Sound", method(api.Be, "x", api.Tag, "", none, "main.Cell box"), ErrSend}, {"main.P", method(api.New, "x", api.Val, "", u8(), "main.Cell box"), api.OK},
		{"main.Dog", method(api.New, "x", api.Iso, "", u8(), "main.Cell box"), ErrSend}, {"main.Dog", method(api.New, "x", api.Trn, "", u8(), "main.Cell box"), ErrSend}, {"main.Dog", method(api.New, "x", api.Val, "", u8(), "main.Cell box"), ErrSend},
		{"main.Dog", method(api.New, "x", api.Ref, "", u8(), "main.Cell box"), api.OK}, {"main.Dog", method(api.New, "x", api.Box, "", u8(), "main.Cell box"), api.OK}, {"main.Dog", method(api.New, "x", api.Tag, "", u8(), "main.Cell box"), api.OK},
		{"main.Dog", method(api.New, "x", api.Iso, "", u8(), "main.Cell iso", "main.Cell val"), api.OK},
		{"main.Act", method(api.Be, "x", api.Tag, "U8 val", none, "main.Cell ref"), ErrEntity}, {"main.Act", method(api.Be, "x", api.Tag, "", none, "main.Cell ref"), ErrSend}, {"main.Dog", method(api.Be, "x", api.Tag, "$A", none), api.ErrForm},
	} {
		p := append(cells(), api.Entity{Kind: api.Trait, Name: "main.Lonely", Cap: api.Ref})
		p, i := withEntity(t, p, c.entity, func(e *api.Entity) { e.Methods = append(e.Methods, c.m) })
		f, e := Program(p)
		if want := (Fault{i, len(p[i].Methods) - 1, nil}); e != c.e || e != api.OK && !sameFault(f, want) || e == api.OK && !sameFault(f, Fault{}) {
			t.Errorf("%s %+v: error %d at %v, not %d", c.entity, c.m, e, f, c.e)
		}
	}
}

// TestProgramPromised: what a provided type promises must be there.
func TestProgramPromised(t *testing.T) {
	none := noExpr()
	for _, c := range []struct {
		entity, provided string
		methods          []api.Method
		e                api.Errno
	}{
		{"main.Dog", "main.Sound ref", []api.Method{method(api.Fun, "m", api.Box, "U8 val", u8())}, api.OK},
		{"main.Dog", "main.Sound ref", nil, ErrEntity},
		{"main.Dog", "main.Sound ref", []api.Method{method(api.Fun, "m", api.Ref, "U8 val", u8())}, ErrEntity},
		{"main.Dog", "main.Sound iso", []api.Method{method(api.Fun, "m", api.Tag, "U8 val", u8())}, api.OK},
		{"main.Dog", "main.Sound ref", []api.Method{method(api.Fun, "m", api.Box, "U16 val", u8())}, ErrEntity},
		{"main.Dog", "main.Sound ref", []api.Method{method(api.Fun, "m", api.Box, "U8 val", u8(), "U8 val")}, ErrEntity},
		{"main.Dog", "main.Named ref", []api.Method{method(api.Fun, "m", api.Box, "U8 val", u8())}, api.OK}, // name has a body there
		{"main.Dog", "main.Named ref", nil, ErrEntity},                                                      // what it finds for m is the trait's own, without a body
		{"main.P", "main.Named ref", nil, ErrEntity},
		{"Env", "main.Named ref", nil, api.OK}, // a builtin one needs no body
		{"Env", "main.Sound ref", nil, api.OK},
		{"main.Named", "main.Sound ref", nil, api.OK}, // a trait needs none, either
		{"Stringable", "main.Sound ref", nil, api.OK},
		{"Stringable", "main.Sound ref", []api.Method{method(api.Fun, "m", api.Val, "U8 val", none)}, ErrEntity},
		{"main.Act", "main.Runs ref", []api.Method{method(api.Be, "go", api.Tag, "", u8(), "main.Cell iso")}, ErrEntity}, // a missing result is none of None
		{"main.Act", "main.Runs ref", []api.Method{method(api.Be, "go", api.Tag, "None val", u8(), "main.Cell iso")}, api.OK},
		{"main.Act", "main.Runs ref", []api.Method{method(api.Fun, "go", api.Tag, "None val", u8(), "main.Cell iso")}, ErrEntity},
		{"main.Dog", "main.Runs ref", []api.Method{method(api.Fun, "go", api.Tag, "None val", u8(), "main.Cell iso")}, ErrEntity},
		{"main.Dog", "main.Runs ref", nil, ErrEntity}, {"main.P", "main.Runs ref", nil, ErrEntity}, {"String", "main.Runs ref", nil, ErrEntity},
		{"main.Main", "main.Runs ref", nil, ErrEntity}, {"None", "main.Runs ref", nil, ErrEntity}, {"Out", "main.Runs ref", nil, api.OK},
	} {
		p, i := withEntity(t, cells(), c.entity, func(e *api.Entity) { e.Provides, e.Methods = typs(c.provided), c.methods })
		if f, e := Program(p); e != c.e || e != api.OK && !sameFault(f, Fault{i, -1, nil}) {
			t.Errorf("%s is %s with %v: error %d at %v", c.entity, c.provided, c.methods, e, f)
		}
	}
	p, i := withEntity(t, cells(), "main.Dog", func(e *api.Entity) { e.Name, e.Provides = "", typs("main.Sound ref") })
	if f, e := Program(p); e != ErrEntity || f.Entity != i { // its type has an error, and so no method
		t.Errorf("without a name: error %d at %v", e, f)
	}
}

// TestProgramSupers: what stands behind several supertypes.
func TestProgramSupers(t *testing.T) {
	trait := func(name string, provides ...string) api.Entity {
		return api.Entity{Kind: api.Trait, Name: name, Cap: api.Ref, Provides: typs(provides...)}
	}
	p := []api.Entity{trait("a.A", "a.B ref"), trait("a.B", "a.C ref"), trait("a.C"), {Kind: api.Class, Name: "a.D", Cap: api.Ref, Provides: typs("a.A ref")}}
	if f, e := Program(p); e != api.OK {
		t.Errorf("error %d at %v", e, f)
	}
	p[2].Provides = typs("a.A ref")
	if f, e := Program(p); e != ErrEntity || f.Entity != 0 {
		t.Errorf("a circle: error %d at %v", e, f)
	}
	p[2].Provides = nil
	p[2].Methods = []api.Method{method(api.Fun, "f", api.Box, "U8 val", noExpr())}
	if f, e := Program(p); e != ErrEntity || !sameFault(f, Fault{3, -1, nil}) {
		t.Errorf("a promise far above: error %d at %v", e, f)
	}
	p[1].Methods = []api.Method{method(api.Fun, "f", api.Box, "U8 val", u8())}
	if f, e := Program(p); e != api.OK {
		t.Errorf("error %d at %v", e, f)
	}
}

// TestProgramOrder: entities in order, each one with all of its parts, and promises behind them.
func TestProgramOrder(t *testing.T) {
	p := cells()
	dog, _ := at(t, p, "main.Dog", "")
	cat, _ := at(t, p, "main.Cat", "")
	p[dog].Methods = append(slices.Clone(p[dog].Methods), method(9, "x", 0, "", u8()))
	p[cat].Kind = 0
	if f, e := Program(p); e != api.ErrForm || !sameFault(f, Fault{dog, len(p[dog].Methods) - 1, nil}) {
		t.Errorf("error %d at %v", e, f)
	}
	p = cells()
	p[dog].Methods, p[cat].Name = nil, "main.Dog"
	if f, e := Program(p); e != api.ErrTwice || !sameFault(f, Fault{cat, -1, nil}) {
		t.Errorf("error %d at %v", e, f)
	}
	p[cat].Kind = 0
	if f, e := Program(p); e != api.ErrTwice || f.Entity != cat {
		t.Errorf("error %d at %v", e, f)
	}
	if f, e := Program(nil); e != api.OK || !sameFault(f, Fault{}) {
		t.Errorf("no entities: error %d at %v", e, f)
	}
	for _, n := range []int{api.MaxUnits, api.MaxUnits + 1} {
		p = nil
		for i := range n {
			p = append(p, api.Entity{Kind: api.Class, Name: "a.C" + strconv.Itoa(i), Cap: api.Ref})
		}
		p[0].Kind = 9
		want := api.ErrForm
		if n > api.MaxUnits {
			want = api.ErrSize
		}
		if f, e := Program(p); e != want || !sameFault(f, Fault{0, -1, nil}) {
			t.Errorf("%d entities: error %d at %v", n, e, f)
		}
		if c, f, e := Check(p); e != want || !sameFault(f, Fault{0, -1, nil}) || len(c.Bodies) > 0 {
			t.Errorf("Check of %d entities: error %d at %v", n, e, f)
		}
	}
}

func TestBuiltin(t *testing.T) {
	for name, want := range map[string]bool{"": true, "U8": true, "Array[main.Cell ref]": true, "main.Cell": false, "main.Cell[U8 val]": false, "a/b.C": false, ".": false, "[": true, "[.": true, "A[.]": true, "A.[": false} {
		if Builtin(name) != want {
			t.Errorf("%s: %v", name, !want)
		}
	}
}

// TestProgramLarge: long chains of traits, with as many methods as there may be, take no long time.
func TestProgramLarge(t *testing.T) {
	var p []api.Entity
	for i := range subtype.MaxSupers {
		e := api.Entity{Kind: api.Trait, Name: "a.T" + strconv.Itoa(i), Cap: api.Ref}
		if i > 0 {
			e.Provides = typs("a.T" + strconv.Itoa(i-1) + " ref")
		}
		for j := range api.MaxList {
			e.Methods = append(e.Methods, method(api.Fun, "f"+strconv.Itoa(i*api.MaxList+j), api.Box, "", noExpr()))
		}
		p = append(p, e)
	}
	start := time.Now()
	if f, e := Program(p); e != api.OK {
		t.Errorf("error %d at %v", e, f)
	}
	if d := time.Since(start); d > 20*time.Second {
		t.Errorf("%v", d)
	}
}
