package check_test

import (
	"strconv"
	"strings"
	"testing"

	"hackamore/api"
	. "hackamore/check"
)

func call(name string, n int) api.Expr {
	x := ex(api.OpCall, name, this())
	for range n {
		x.Kids = append(x.Kids, u8())
	}
	return x
}

func construct(s string, n int) api.Expr {
	x := ex(api.OpNew, s)
	for range n {
		x.Kids = append(x.Kids, u8())
	}
	return x
}

func TestRuleCalls(t *testing.T) {
	testRules(t, cells(), nil, nil, []ruled{
		{inBox, call("get", 0), "main.Cell ref", "main.Cell box", 0}, {inBox, call("get", 0), "main.Cell val", "main.Cell box", 0}, {inBox, call("get", 0), "main.Cell iso^", "main.Cell box", 0}, {inBox, call("get", 0), "main.Cell trn", "main.Cell box", 0},
		{inBox, call("get", 0), "main.Cell tag", "", ErrView}, {inBox, call("get", 0), "main.Cell iso", "", ErrView}, {inBox, call("get", 0), "main.Cell iso!", "", ErrView}, {inBox, call("mine", 0), "main.Cell box", "", ErrView}, {inBox, call("mine", 0), "main.Cell trn^", "main.Cell ref", 0}, {inBox, call("mine", 0), "main.Cell trn", "", ErrView},
		{inBox, call("share", 0), "main.Cell val", "main.Cell val", 0}, {inBox, call("share", 0), "main.Cell box", "", ErrView}, {inBox, call("alone", 0), "main.Cell iso^", "U8 val", 0}, {inBox, call("alone", 0), "main.Cell iso", "U8 val", 0}, {inBox, call("alone", 0), "main.Cell iso!", "", ErrView}, {inBox, call("half", 0), "main.Cell trn!", "", ErrView},
		{inBox, call("id", 1), "main.Cell iso!; U8 val", "Bool val", 0}, {inBox, call("id", 1), "main.Cell tag; -", "Bool val", 0},

		{inBox, call("get", 0), "-", "", api.ErrType}, {inBox, call("get", 0), "(main.Cell ref, U8 val)", "", api.ErrNone}, {inBox, call("get", 0), "U8 val", "", api.ErrNone}, {inBox, call("none", 0), "main.Cell ref", "", api.ErrNone}, {inBox, call("get", 0), "main.Nothing ref", "", api.ErrNone}, {inBox, call("get", 0), "$A", "", api.ErrNone},
		{inBox, call("get", 0), "(main.Cell ref | U8 val)", "", api.ErrNone}, {inBox, call("create", 4), "main.Cell ref; -; -; -; -", "", ErrPlace}, {inBox, call("create", 0), "main.Cell tag", "", ErrPlace}, {inBox, call("create", 0), "U8 val", "", ErrPlace},
		{inBox, call("put", 0), "main.Cell ref", "", ErrArgs}, {inBox, call("put", 2), "main.Cell ref; main.Cell ref; main.Cell ref", "", ErrArgs}, {inBox, call("put", 1), "main.Cell ref; main.Cell box", "", ErrArgs}, {inBox, call("put", 1), "main.Cell ref; main.Cell trn^", "main.Cell ref", 0}, {inBox, call("put", 1), "main.Cell ref; -", "main.Cell ref", 0}, {inBox, call("put", 0), "main.Cell box", "", ErrView},

		{inBox, call("go", 1), "main.Act tag; main.Cell iso^", "None val", 0}, {inBox, call("go", 1), "main.Act iso; main.Cell iso", "None val", 0}, {inBox, call("go", 1), "main.Act tag; main.Cell iso!", "", ErrArgs}, {inBox, call("go", 1), "main.Act tag; main.Cell ref", "", ErrArgs}, {inBox, call("go", 0), "main.Act tag", "", ErrArgs}, {inBox, call("go", 1), "main.Runs tag; main.Cell iso^", "None val", 0},
		{inBox, call("go", 1), "(main.Act tag | main.Runs tag); main.Cell iso^", "None val", 0},
		{inBox, call("m", 0), "(main.Sound ref | main.Named ref)", "U8 val", 0}, {inBox, call("apply", 1), "(" + arrayOf("ref") + " | " + `"Array[U8 val]" ref` + "); USize val", "", api.ErrNone}, // they are not alike
		{inBox, call("go", 1), "(main.Act tag | main.Runs iso!); main.Cell iso^", "None val", 0}, {inBox, call("go", 1), "(main.Act tag & (U8 val, U8 val)); main.Cell iso^", "None val", 0}, // who calls a behaviour does not matter
		{inBox, call("print", 1), "Out tag; String val", "None val", 0}, {inBox, call("print", 1), "Out tag; String ref", "", ErrArgs}, {inBox, call("mine", 0), "main.Act tag", "", ErrView}, {inBox, call("far", 0), "main.Act tag", "U8 val", 0},

		{inBox, call("m", 0), "main.Sound ref", "U8 val", 0}, {inBox, call("m", 0), "(main.Dog ref | main.Cat ref)", "U8 val", 0}, {inBox, call("m", 0), "(main.Dog ref | main.Cat val)", "", api.ErrType}, {inBox, call("m", 0), "(main.Dog trn! | main.Cat box)", "U8 val", 0}, {inBox, call("m", 0), "(main.Dog tag | main.Cat iso!)", "", ErrView},
		{inBox, call("m", 0), "(main.Sound ref & main.Named ref)", "U8 val", 0}, {inBox, call("name", 0), "(main.Sound ref & main.Named ref)", "String val", 0}, {inBox, call("m", 0), "(main.Sound ref & main.Named val)", "", api.ErrType}, {inBox, call("m", 0), "(main.Sound ref & (U8 ref, U8 ref))", "U8 val", 0},
		{inBox, call("m", 0), "(main.Sound ref & $A)", "", api.ErrType}, {inBox, call("m", 0), "(main.Sound ref & this ref)", "", api.ErrType}, {inBox, call("m", 0), "(main.Sound ref & (this -> main.Dog ref))", "U8 val", 0}, {inBox, call("m", 0), "(main.Sound ref & (this -> main.Dog box))", "", api.ErrType}, {inBox, call("name", 0), "main.Dog ref", "String val", 0},
		{inBox, call("m", 0), "(main.Sound iso & main.Named iso!)", "", api.ErrType}, {inBox, call("m", 0), "(main.Sound iso^ & main.Named iso)", "", ErrView}, {inBox, call("m", 0), "(main.Sound iso^ & main.Named iso^)", "U8 val", 0},
		{inBox, call("add", 1), "U8 val; U8 val", "U8 val", 0}, {inBox, call("add", 1), "U8 val; U16 val", "", ErrArgs}, {inBox, call("string", 0), "Bool val", "String val", 0}, {inBox, call("part", 1), "main.Cell box; U8 val", "U8 val", 0},
	})
}

// TestRuleReceivers: a function of the runtime sees its types by the receiver as it is, all others as they declare it.
func TestRuleReceivers(t *testing.T) {
	testRules(t, cells(), nil, nil, []ruled{
		{inBox, call("apply", 1), arrayOf("ref") + "; USize val", "main.Cell ref", 0}, {inBox, call("apply", 1), arrayOf("val") + "; USize val", "main.Cell val", 0}, {inBox, call("apply", 1), arrayOf("box") + "; USize val", "main.Cell box", 0}, {inBox, call("apply", 1), arrayOf("trn") + "; USize val", "main.Cell box", 0},
		{inBox, call("apply", 1), arrayOf("iso^") + "; USize val", "main.Cell tag", 0}, {inBox, call("apply", 1), arrayOf("trn!") + "; USize val", "main.Cell box", 0}, {inBox, call("apply", 1), arrayOf("iso!") + "; USize val", "", ErrView}, {inBox, call("apply", 1), arrayOf("tag") + "; USize val", "", ErrView},
		{inBox, call("push", 1), arrayOf("ref") + "; main.Cell ref", "None val", 0}, {inBox, call("push", 1), arrayOf("ref") + "; main.Cell box", "", ErrArgs}, {inBox, call("push", 1), arrayOf("box") + "; main.Cell ref", "", ErrView}, {inBox, call("pop", 0), arrayOf("ref"), "main.Cell ref", 0}, {inBox, call("size", 0), arrayOf("val"), "USize val", 0},
	})
	see := func(body api.Expr, param string) api.Method {
		m := method(api.Fun, "see", api.Box, "(this -> main.Cell ref)", body)
		if param != "" {
			m.Params = []api.Param{{Name: "x", Type: typ(param)}}
		}
		return m
	}
	for _, c := range []struct {
		entity, kids, want string
		m                  api.Method
		e                  api.Errno
	}{
		{"String", "String ref", "main.Cell ref", see(noExpr(), ""), 0}, {"String", "String val", "main.Cell val", see(noExpr(), ""), 0}, {"String", "String ref", "main.Cell box", see(u8(), ""), 0},
		{"main.Dog", "main.Dog ref", "main.Cell box", see(noExpr(), ""), 0}, {"Stringable", "Stringable ref", "main.Cell box", see(noExpr(), ""), 0}, {"main.P", "main.P ref", "main.Cell box", see(u8(), ""), 0}, {"Out", "Out ref", "main.Cell ref", see(noExpr(), ""), 0}, {"None", "None ref", "main.Cell ref", see(noExpr(), ""), 0},
		{"String", "String ref; main.Cell ref", "main.Cell ref", see(noExpr(), "(this -> main.Cell ref)"), 0}, {"String", "String ref; main.Cell box", "", see(noExpr(), "(this -> main.Cell ref)"), ErrArgs}, {"main.Dog", "main.Dog ref; main.Cell box", "main.Cell box", see(u8(), "(this -> main.Cell ref)"), 0}, {"main.Dog", "main.Dog ref; main.Cell tag", "", see(u8(), "(this -> main.Cell ref)"), ErrArgs},
		{"main.Dog", "main.Dog ref; U8 val", "", see(u8(), "(this -> this tag)"), ErrArgs}, {"main.Dog", "main.Dog ref; U8 val", "", see(u8(), "$A"), ErrArgs},
	} {
		p, _ := withEntity(t, cells(), c.entity, func(e *api.Entity) { e.Methods = append(e.Methods, c.m) })
		testRules(t, p, nil, nil, []ruled{{inBox, call("see", strings.Count(c.kids, ";")), c.kids, c.want, c.e}})
	}
	p, _ := withEntity(t, cells(), "String", func(e *api.Entity) { e.Methods = append(e.Methods, see(noExpr(), "")) })
	p, _ = withEntity(t, p, "Out", func(e *api.Entity) { e.Methods = append(e.Methods, see(noExpr(), "")) })
	testRules(t, p, nil, nil, []ruled{{inBox, call("see", 0), "(String ref | Out ref)", "main.Cell ref", 0}, {inBox, call("see", 0), "(String val & main.Dog val)", "main.Cell box", 0}, {inBox, call("see", 0), "(String val & main.Sound val)", "main.Cell box", 0}, {inBox, call("see", 0), "(String val & Stringable val)", "main.Cell box", 0}})

	tagged := method(api.Fun, "see", api.Tag, "(this -> main.Cell ref)", u8(), "(this -> main.Cell ref)")
	p, _ = withEntity(t, cells(), "main.Dog", func(e *api.Entity) { e.Methods = append(e.Methods, tagged) })
	testRules(t, p, nil, nil, []ruled{{inBox, call("see", 1), "main.Dog ref; main.Cell ref", "", api.ErrCap}, {inBox, call("see", 0), "main.Dog ref", "", ErrArgs}, {inBox, call("see", 2), "main.Dog ref; -; -", "", ErrArgs}})
	tagged.Params = nil
	p, _ = withEntity(t, cells(), "main.Dog", func(e *api.Entity) { e.Methods = append(e.Methods, tagged) })
	testRules(t, p, nil, nil, []ruled{{inBox, call("see", 0), "main.Dog ref", "", api.ErrCap}})
	tagged.Kind = api.Be // its result is None, whatever it says
	p, _ = withEntity(t, cells(), "main.Dog", func(e *api.Entity) { e.Methods = append(e.Methods, tagged) })
	testRules(t, p, nil, nil, []ruled{{inBox, call("see", 0), "main.Dog ref", "None val", 0}})
	tagged.Kind, tagged.Cap, tagged.Result = api.Fun, api.Box, api.Type{}
	p, _ = withEntity(t, cells(), "main.Dog", func(e *api.Entity) { e.Methods = append(e.Methods, tagged) })
	testRules(t, p, nil, nil, []ruled{{inBox, call("see", 0), "main.Dog ref", "None val", 0}})
}

// arrayOf returns the text of the type of an Array of cells, whose name has brackets.
func arrayOf(c string) string { return `"Array[main.Cell ref]" ` + c }

func TestRuleNews(t *testing.T) {
	const four = "main.Cell ref; main.Cell val; main.Cell iso^; main.Cell trn^"
	testRules(t, cells(), nil, nil, []ruled{
		{inBox, construct("create: main.Cell ref", 4), four, "main.Cell ref", 0}, {inBox, construct("create: main.Cell tag!", 4), four, "main.Cell ref", 0}, {inBox, construct("make: main.Cell ref", 1), "main.Cell val", "main.Cell iso^", 0}, {inBox, construct("create: main.Cat ref", 1), "main.Cell val", "main.Cat val", 0},
		{inBox, construct("create: main.Act tag", 1), "main.Cell iso^", "main.Act tag", 0}, {inBox, construct("create: main.Act tag", 1), "main.Cell iso!", "", ErrArgs}, {inBox, construct("create: U8 val", 1), "U8 val", "U8 val", 0}, {inBox, construct("create: "+arrayOf("ref"), 0), "", arrayOf("ref"), 0},
		{inBox, construct("create: main.Cell ref", 3), "main.Cell ref; main.Cell val; main.Cell iso^", "", ErrArgs}, {inBox, construct("create: main.Cell ref", 4), "main.Cell box; main.Cell val; main.Cell iso^; main.Cell trn^", "", ErrArgs}, {inBox, construct("create: main.Cell ref", 4), "-; -; -; -", "main.Cell ref", 0},
		{inBox, construct("get: main.Cell ref", 0), "", "", api.ErrNone}, {inBox, construct("none: main.Cell ref", 0), "", "", api.ErrNone}, {inBox, construct("go: main.Act tag", 1), "main.Cell iso^", "", api.ErrNone}, {inBox, construct("create: main.P val", 0), "", "", api.ErrNone},
		{inBox, construct("m: main.Sound ref", 0), "", "", api.ErrType}, {inBox, construct("name: main.Named ref", 0), "", "", api.ErrType}, {inBox, construct("create: main.Nothing ref", 0), "", "", api.ErrType}, {inBox, construct("create: main.Cell[U8 val] ref", 0), "", "", api.ErrType},
	})
	// Parameters are seen by the receiver of a constructor, ref or val; the first method of a name counts.
	seen := method(api.New, "see", api.Ref, "", u8(), "(this -> main.Cell ref)")
	p, _ := withEntity(t, cells(), "main.Dog", func(e *api.Entity) { e.Methods = append(e.Methods, seen) })
	p, _ = withEntity(t, p, "main.P", func(e *api.Entity) { e.Methods = append(e.Methods, seen) })
	p, _ = withEntity(t, p, "main.Act", func(e *api.Entity) { e.Methods = append(e.Methods, seen, seen) })
	p, _ = withEntity(t, p, "main.Cat", func(e *api.Entity) {
		e.Methods = append(e.Methods, method(api.Fun, "see", api.Ref, "", u8()), seen)
	})
	testRules(t, p, nil, nil, []ruled{
		{inBox, construct("see: main.Dog ref", 1), "main.Cell ref", "main.Dog ref", 0}, {inBox, construct("see: main.Dog ref", 1), "main.Cell box", "", ErrArgs}, {inBox, construct("see: main.P ref", 1), "main.Cell val", "main.P ref", 0}, {inBox, construct("see: main.P ref", 1), "main.Cell ref", "", ErrArgs},
		{inBox, construct("see: main.Act ref", 1), "main.Cell ref", "main.Act ref", 0}, {inBox, construct("see: main.Cat ref", 1), "main.Cell ref", "", api.ErrNone},
	})
	wrong := method(api.New, "see", 0, "", u8(), "(this -> main.Cell ref)")
	p, _ = withEntity(t, cells(), "main.Dog", func(e *api.Entity) { e.Methods = append(e.Methods, wrong) })
	testRules(t, p, nil, nil, []ruled{{inBox, construct("see: main.Dog ref", 1), "main.Cell ref", "", api.ErrForm}})
	p, _ = withEntity(t, cells(), "main.Dog", func(e *api.Entity) { e.Bounds = []api.Bound{{Name: "A", Type: typ("Any tag")}} })
	testRules(t, p, nil, nil, []ruled{{inBox, construct("create: main.Dog ref", 0), "", "", api.ErrType}, {inBox, construct("create: main.Dog[U8 val] ref", 0), "", "", api.ErrType}})
}

func TestRuleMatches(t *testing.T) {
	c := func(s string) api.Expr { return ex(api.OpCase, s, noExpr(), this()) }
	guarded := func(s string) api.Expr { return ex(api.OpCase, s, yes(), this()) }
	m := func(l ...api.Expr) api.Expr { return ex(api.OpMatch, "", append([]api.Expr{this()}, l...)...) }
	three := ex(api.OpCase, ": U8 val", noExpr(), this(), this())
	bare := ex(api.OpCase, "", noExpr(), this())
	testRules(t, cells(), nil, nil, []ruled{
		{inBox, m(c("x: U8 val")), "U8 val; U16 val", "U16 val", 0}, {inBox, m(c("x: U8 val")), "(U8 val | None val); U16 val", "(None val | U16 val)", 0}, {inBox, m(c(": U8 val"), c(": None val")), "(U8 val | None val); U16 val; U32 val", "(U16 val | U32 val)", 0},
		{inBox, m(c(": U8 val"), guarded(": None val")), "(U8 val | None val); U16 val; U32 val", "(None val | U16 val | U32 val)", 0}, {inBox, m(guarded(": Any tag"), c(": Any tag")), "main.Dog ref; U16 val; -", "U16 val", 0}, {inBox, m(guarded(": Any tag")), "main.Dog ref; U16 val", "(None val | U16 val)", 0},
		{inBox, m(c(": U8 val")), "-; U16 val", "", api.ErrType}, {inBox, m(c(": U8 val")), "U8 val; -", "", 0}, {inBox, m(c(": U8 val")), "U16 val; -", "None val", 0}, {inBox, m(c(": U8 tag")), "U8 val; U16 val", "U16 val", 0},
		{inBox, m(c(": main.Cell iso")), "(main.Cell iso! | None val); U8 val", "", ErrCases}, {inBox, m(c(": main.Cell tag")), "(main.Cell iso! | None val); U8 val", "(None val | U8 val)", 0}, {inBox, m(c(": main.Cell iso")), "(main.Cell iso^ | None val); U8 val", "(None val | U8 val)", 0},
		{inBox, m(c(": U8 val"), c(": main.Cell ref")), "main.Cell box; U8 val; U8 val", "", ErrCases}, {inBox, m(three), "U8 val; U8 val", "", ErrCases}, {inBox, m(bare), "U8 val; U8 val", "", ErrCases}, {inBox, m(api.Expr{Op: api.OpCase, Types: typs("U8 val", "U8 val"), Kids: bare.Kids}), "U8 val; U8 val", "", ErrCases},
		{inBox, m(three), "-; U8 val", "", api.ErrType}, {inBox, m(c(": U8 val"), three), "U8 val; U8 val; U8 val", "", ErrCases}, {inBox, m(api.Expr{Op: api.OpCase, Types: []api.Type{{}}, Kids: bare.Kids}), "U8 val; U8 val", "", ErrCases},
		{inBox, m(c(": main.Cat val"), c(": main.Dog val")), "main.Named val; U8 val; U8 val", "(None val | U8 val)", 0}, {inBox, m(c(": main.Sound val")), "(main.Cat val | main.Dog val); U8 val", "U8 val", 0},
		{inBox, m(c(": (U8 val, main.Sound val)")), "(U8 val, main.Cat val); U8 val", "U8 val", 0}, {inBox, m(c(": (U8 val, U8 val)")), "(U8 val, (U8 val | None val)); U8 val", "(None val | U8 val)", 0},
	})
	var wide []api.Expr
	kids := "U8 val"
	for i := range api.MaxList + 1 {
		wide = append(wide, c(": main.Nothing"+strconv.Itoa(i)+" tag"))
		kids += "; U16 val"
	}
	testRules(t, cells(), nil, nil, []ruled{{inBox, m(wide[1:]...), strings.TrimSuffix(kids, "; U16 val"), "(None val | U16 val)", 0}, {inBox, m(wide...), kids, "", api.ErrSize}})
	of := func(s string, guard api.Expr) api.Expr { return ex(api.OpCase, s, guard, this()) }
	testRules(t, cells(), nil, nil, []ruled{
		{inBox, of("x: U8 val", noExpr()), "-; U16 val", "U16 val", 0}, {inBox, of(": U8 val", yes()), "Bool val; U16 val", "U16 val", 0}, {inBox, of(": U8 val", yes()), "-; -", "", 0}, {inBox, of(": U8 val", yes()), "U8 val; U16 val", "", api.ErrType}, {inBox, of(": U8 val", noExpr()), "U8 val; U16 val", "U16 val", 0},
		{inBox, of(": $A", noExpr()), "-; U16 val", "", api.ErrForm}, {inBox, of(": this", noExpr()), "-; U16 val", "", api.ErrForm}, {inBox, of(": (this ref -> U8 val)", yes()), "U8 val; U16 val", "", api.ErrForm}, {inBox, of(": (main.Sound ref & main.Named val)", noExpr()), "-; U16 val", "", api.ErrForm}, {inBox, of(": (main.Sound ref & main.Named ref)", noExpr()), "-; U16 val", "U16 val", 0},
	})
}
