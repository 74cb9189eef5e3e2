package check_test

import (
	"slices"
	"strconv"
	"strings"
	"testing"

	"hackamore/api"
	. "hackamore/check"
	"hackamore/types"
)

// ruled is a call of Rule: where (an entity and a method of the program of cells), the expression, the texts of the types of its
// Kids, and the text of the type, or the error.
type ruled struct {
	where string
	x     api.Expr
	kids  string
	want  string
	e     api.Errno
}

// kidTypes returns the types of a text in which a semicolon stands between two.
func kidTypes(s string) []api.Type {
	if s == "" {
		return nil
	}
	var l []api.Type
	for _, t := range strings.Split(s, "; ") {
		l = append(l, typ(strings.TrimSpace(strings.TrimSuffix(t, "-"))))
	}
	return l
}

func testRules(t *testing.T, p []api.Entity, locals []Local, regions []int, l []ruled) {
	t.Helper()
	for _, c := range l {
		entity, name, _ := strings.Cut(c.where, " ")
		i, j := at(t, p, entity, name)
		got, e := Rule(p, Context{i, j, locals, regions}, c.x, kidTypes(c.kids))
		if e != c.e || text(got) != c.want {
			t.Errorf("%s in %s of %s: %s, error %d; not %s, error %d", show(c.x), c.where, c.kids, text(got), e, c.want, c.e)
		}
	}
}

const inBox, inNew, inRef = "main.Cell get", "main.Cell create", "main.Cell mine"

func TestRuleFirst(t *testing.T) {
	p := cells()
	i, j := at(t, p, "main.Cell", "get")
	wrong := ex(api.OpThis, "wrong")
	for _, c := range []struct {
		x       api.Expr
		kids    []api.Type
		context Context
		e       api.Errno
	}{
		{wrong, typs("U8 val"), Context{}, api.ErrSize}, {seq(wrong, wrong), typs("U8 val"), Context{Entity: -1}, api.ErrSize}, {noExpr(), typs("U8 val"), Context{}, api.ErrSize},
		{wrong, nil, Context{Entity: -1}, api.ErrRange}, {wrong, nil, Context{Entity: len(p)}, api.ErrRange}, {wrong, nil, Context{Entity: i, Method: -1}, api.ErrRange}, {wrong, nil, Context{Entity: i, Method: len(p[i].Methods)}, api.ErrRange},
		{wrong, nil, Context{Entity: i, Method: j}, api.ErrForm}, {noExpr(), nil, Context{Entity: i, Method: j}, api.ErrForm}, {api.Expr{Op: 27}, nil, Context{Entity: i, Method: j}, api.ErrForm}, {api.Expr{Op: -1}, nil, Context{Entity: i, Method: j}, api.ErrForm},
		{seq(noExpr()), typs(""), Context{Entity: i, Method: j}, api.ErrForm}, {seq(ex(api.OpCase, ": U8 val", noExpr(), this())), typs(""), Context{Entity: i, Method: j}, api.ErrForm},
		{get("", this()), typs("main.Cell ref"), Context{Entity: i, Method: j}, api.ErrForm},
		{seq(wrong), typs("U8 val"), Context{Entity: i, Method: j}, api.OK}, // Kids are not looked at
	} {
		got, e := Rule(p, c.context, c.x, c.kids)
		if want := map[bool]string{true: "U8 val"}[e == api.OK]; e != c.e || text(got) != want {
			t.Errorf("%s: %s, error %d, not %d", show(c.x), text(got), e, c.e)
		}
	}
	if _, e := Rule(nil, Context{}, this(), nil); e != api.ErrRange {
		t.Errorf("of no program: error %d", e)
	}
}

func TestRuleLiterals(t *testing.T) {
	lit := func(s string) api.Expr { return ex(api.OpLit, s) }
	testRules(t, cells(), nil, []int{1}, []ruled{
		{inBox, lit("true: Bool val"), "", "Bool val", 0}, {inBox, lit("false: Bool ref^"), "", "Bool val", 0}, {inBox, lit("True: Bool val"), "", "", api.ErrForm}, {inBox, lit(": Bool val"), "", "", api.ErrForm},
		{inBox, lit(": String val"), "", "String val", 0}, {inBox, lit("é\n: String iso!"), "", "String val", 0}, {inBox, lit("a\xff: String val"), "", "", api.ErrForm},
		{inBox, lit("255: U8 val"), "", "U8 val", 0}, {inBox, lit("256: U8 val"), "", "", api.ErrRange}, {inBox, lit("-1: I8 tag"), "", "I8 val", 0}, {inBox, lit("x: U8 val"), "", "", api.ErrForm}, {inBox, lit("1.5e3: F32 val"), "", "F32 val", 0},
		{inBox, lit("1: main.Cell ref"), "", "", api.ErrNone}, {inBox, lit("1: None val"), "", "", api.ErrNone}, {inBox, lit(strings.Repeat("1", 401) + ": F64 val"), "", "", api.ErrLarge},
		{inBox, ex(api.OpUnit, ": None val"), "", "None val", 0}, {inBox, ex(api.OpUnit, ": main.P iso^"), "", "main.P val", 0}, {inBox, ex(api.OpUnit, ": AmbientAuth tag"), "", "AmbientAuth val", 0},
		{inBox, ex(api.OpUnit, ": U8 val"), "", "", api.ErrType}, {inBox, ex(api.OpUnit, ": F64 val"), "", "", api.ErrType}, {inBox, ex(api.OpUnit, ": Bool val"), "", "", api.ErrType}, {inBox, ex(api.OpUnit, ": main.Cat val"), "", "", api.ErrType},
		{inBox, ex(api.OpUnit, ": main.Named val"), "", "", api.ErrType}, {inBox, ex(api.OpUnit, ": main.Nothing val"), "", "", api.ErrType}, {inBox, ex(api.OpUnit, ": String val"), "", "", api.ErrType}, {inBox, ex(api.OpUnit, ": main.P[U8 val] val"), "", "", api.ErrType},
		{inBox, ex(api.OpIs, "", this(), this()), "main.Cell box; U8 val", "Bool val", 0}, {inBox, ex(api.OpIs, "", this(), this()), "-; -", "Bool val", 0},
	})
}

func TestRuleLocals(t *testing.T) {
	locals := []Local{
		{"x", false, true, typ("main.Cell iso"), 0}, {"r", false, true, typ("main.Cell ref"), 0}, {"p", true, true, typ("main.Cell trn"), 0}, {"e", false, true, typ("main.Cell iso^"), 0},
		{"q", false, true, typ("main.Cell ref"), 1}, {"s", false, false, typ("(main.Cell iso | U8 val)"), 1}, {"q2", false, true, typ("main.Cell ref"), 2}, {"gone", false, true, typ("main.Cell ref"), 3},
		{"twice", false, true, typ("U8 val"), 0}, {"twice", true, true, typ("U16 val"), 0}, {"hidden", false, true, typ("U8 val"), 0}, {"hidden", false, true, typ("U8 val"), 7}, {"n", false, true, typ("None val"), 0}, {"wrong", false, true, api.Type{Kind: 9}, 0},
		{"t", false, true, typ("main.Cell trn"), 0}, {"al", false, true, typ("main.Cell trn!"), 0}, {"half", false, false, typ("main.Cell val"), 0},
	}
	consume := func(s string) api.Expr { return ex(api.OpConsume, s) }
	assign := func(s string) api.Expr { return ex(api.OpAssign, s, this()) }
	testRules(t, cells(), locals, nil, []ruled{
		{inBox, local("x"), "", "main.Cell iso!", 0}, {inBox, local("r"), "", "main.Cell ref", 0}, {inBox, local("p"), "", "main.Cell trn!", 0}, {inBox, local("e"), "", "main.Cell iso!", 0}, {inBox, local("al"), "", "main.Cell trn!", 0},
		{inBox, local("q"), "", "", api.ErrScope}, {inBox, local("y"), "", "", api.ErrScope}, {inBox, local("twice"), "", "U16 val", 0}, {inBox, local("hidden"), "", "", api.ErrScope}, {inBox, local("wrong"), "", "", api.ErrForm},
		{inBox, consume("x"), "", "main.Cell iso^", 0}, {inBox, consume("e"), "", "main.Cell iso^", 0}, {inBox, consume("r"), "", "main.Cell ref", 0}, {inBox, consume("al"), "", "main.Cell trn!", 0}, {inBox, consume("q"), "", "", api.ErrScope}, {inBox, consume("wrong"), "", "", api.ErrForm},
		{inBox, assign("r"), "main.Cell ref", "main.Cell ref", 0}, {inBox, assign("r"), "-", "main.Cell ref", 0}, {inBox, assign("r"), "main.Cell box", "", ErrResult}, {inBox, assign("x"), "main.Cell iso^", "main.Cell iso^", 0}, {inBox, assign("x"), "main.Cell iso!", "", ErrResult},
		{inBox, assign("p"), "main.Cell box", "", ErrPlace}, {inBox, assign("twice"), "U16 val", "", ErrPlace}, {inBox, assign("q"), "main.Cell ref", "", api.ErrScope}, {inBox, assign("y"), "main.Cell ref", "", api.ErrScope}, {inBox, assign("hidden"), "U8 val", "", api.ErrScope},
		{inBox, assign("half"), "main.Cell val", "(None val | main.Cell val)", 0}, {inBox, assign("half"), "main.Cell ref", "", ErrResult}, {inBox, assign("wrong"), "U8 val", "", ErrResult}, {inBox, assign("wrong"), "-", "", api.ErrForm},
	})
	testRules(t, cells(), locals, []int{1, 2}, []ruled{
		{inBox, local("x"), "", "main.Cell iso!", 0}, {inBox, local("r"), "", "", ErrSend}, {inBox, local("t"), "", "", ErrSend}, {inBox, local("n"), "", "None val", 0}, {inBox, local("wrong"), "", "", ErrSend},
		{inBox, local("q"), "", "", ErrSend}, {inBox, local("s"), "", "(main.Cell iso! | U8 val)", 0}, {inBox, local("q2"), "", "main.Cell ref", 0}, {inBox, local("gone"), "", "", api.ErrScope},
		{inBox, consume("x"), "", "main.Cell iso^", 0}, {inBox, consume("r"), "", "", ErrSend}, {inBox, consume("q2"), "", "main.Cell ref", 0}, {inBox, consume("gone"), "", "", api.ErrScope},
		{inBox, assign("q2"), "main.Cell ref", "main.Cell ref", 0}, {inBox, assign("q"), "main.Cell box", "", ErrSend}, {inBox, assign("x"), "main.Cell iso^", "", ErrSend}, {inBox, assign("p"), "U8 val", "", ErrPlace}, {inBox, assign("gone"), "U8 val", "", api.ErrScope},
	})
	testRules(t, cells(), locals, []int{2, 1}, []ruled{
		{inBox, assign("s"), "U8 val", "(None val | U8 val | main.Cell iso^)", 0}, {inBox, assign("s"), "U16 val", "", ErrResult}, {inBox, local("q2"), "", "", ErrSend},
	})
}

func TestRuleThis(t *testing.T) {
	p := cells()
	for _, c := range []struct{ where, out, in string }{
		{"main.Cell get", "main.Cell box", ""}, {"main.Cell mine", "main.Cell ref", ""}, {"main.Cell share", "main.Cell val", "main.Cell val"}, {"main.Cell alone", "main.Cell iso!", "main.Cell iso!"},
		{"main.Cell half", "main.Cell trn!", ""}, {"main.Cell id", "main.Cell tag", "main.Cell tag"}, {"main.Cell make", "main.Cell ref", ""}, {"main.Cat create", "main.Cat ref", ""},
		{"main.Act create", "main.Act ref", ""}, {"main.Act go", "main.Act ref", ""}, {"main.Act far", "main.Act tag", "main.Act tag"}, {"U8 create", "U8 val", "U8 val"}, {"main.P p", "main.P box", ""}, {"main.Named name", "main.Named box", ""}, {"main.Runs go", "main.Runs ref", ""},
	} {
		e := api.OK
		if c.in == "" {
			e = ErrSend
		}
		testRules(t, p, nil, nil, []ruled{{c.where, this(), "", c.out, 0}})
		testRules(t, p, nil, []int{1}, []ruled{{c.where, this(), "", c.in, e}})
	}
	p, _, _ = with(t, p, "main.Cell", "get", func(m *api.Method) { m.Cap = 0 })
	testRules(t, p, nil, []int{1}, []ruled{{"main.Cell get", this(), "", "", api.ErrForm}})
}

// TestRuleFields: what is read, and written, through each capability.
func TestRuleFields(t *testing.T) {
	x := local("x")
	g := func(f string) api.Expr { return get(f, x) }
	s := func(f string) api.Expr { return ex(api.OpSet, f, x, x) }
	own := func(f string) api.Expr { return ex(api.OpSet, f, this(), x) }
	testRules(t, cells(), nil, nil, []ruled{
		{inBox, g("c"), "main.Cell box", "main.Cell box", 0}, {inBox, g("c"), "main.Cell ref", "main.Cell ref", 0}, {inBox, g("c"), "main.Cell iso", "main.Cell tag", 0}, {inBox, g("c"), "main.Cell iso^", "main.Cell tag", 0}, {inBox, g("c"), "main.Cell trn", "main.Cell box", 0}, {inBox, g("c"), "main.Cell val", "main.Cell val", 0},
		{inBox, g("c"), "main.Cell tag", "", ErrView}, {inBox, g("c"), "main.Cell iso!", "", ErrView}, {inBox, g("c"), "main.Cell trn!", "main.Cell box", 0}, {inBox, g("t"), "main.Cell trn!", "main.Cell box", 0}, {inBox, g("t"), "main.Cell trn", "main.Cell trn!", 0},
		{inBox, g("i"), "main.Cell ref", "main.Cell iso!", 0}, {inBox, g("i"), "main.Cell box", "main.Cell tag", 0}, {inBox, g("i"), "main.Cell val", "main.Cell val", 0}, {inBox, g("o"), "main.Cell ref", "(main.Cell iso! | None val)", 0}, {inBox, g("d"), "main.Cell iso", "main.Cell val", 0},
		{inBox, g("c"), "U8 val", "", api.ErrType}, {inBox, g("c"), "main.P val", "", api.ErrType}, {inBox, g("c"), "main.Sound ref", "", api.ErrType}, {inBox, g("c"), "main.Named ref", "", api.ErrType}, {inBox, g("c"), "(main.Cell ref | None val)", "", api.ErrType}, {inBox, g("c"), "(main.Cell ref & main.Cell ref)", "", api.ErrType},
		{inBox, g("c"), "this ref", "", api.ErrType}, {inBox, g("c"), "-", "", api.ErrType}, {inBox, g("c"), "main.Nothing ref", "", api.ErrType}, {inBox, g("x"), "main.Cell ref", "", api.ErrNone}, {inBox, g("x"), "main.Cell tag", "", api.ErrNone}, {inBox, g("cell"), "main.Act ref", "main.Cell ref", 0}, {inBox, g("cell"), "main.Act tag", "", ErrView},
		{inBox, g("out"), "Env val", "Out tag", 0}, {inBox, g("c"), "$main.Cell ref", "", api.ErrType},
		{inBox, g("c"), "main.Cell ref!", "main.Cell ref", 0}, {inBox, g("c"), "main.Cell val!", "main.Cell val", 0}, {inBox, g("c"), "main.Cell tag!", "", ErrView}, {inBox, g("c"), "main.Cell box^", "main.Cell box", 0},

		{inRef, s("c"), "main.Cell ref; main.Cell ref", "main.Cell ref", 0}, {inRef, s("c"), "main.Cell box; main.Cell ref", "", ErrView}, {inRef, s("c"), "main.Cell tag; U8 val", "", ErrView}, {inRef, s("c"), "main.Cell val; main.Cell ref", "", ErrView}, {inRef, s("c"), "main.Cell iso!; main.Cell ref", "", ErrView}, {inRef, s("c"), "main.Cell trn!; main.Cell ref", "", ErrView},
		{inRef, s("c"), "main.Cell ref; main.Cell box", "", ErrResult}, {inRef, s("c"), "main.Cell ref; U8 val", "", ErrResult}, {inRef, s("c"), "main.Cell iso; main.Cell ref", "", ErrSend}, {inRef, s("c"), "main.Cell iso; main.Cell iso^", "main.Cell tag", 0}, {inRef, s("c"), "main.Cell trn; main.Cell ref", "", ErrSend}, {inRef, s("c"), "main.Cell trn^; main.Cell trn^", "main.Cell box", 0},
		{inRef, s("i"), "main.Cell ref; main.Cell iso^", "main.Cell iso^", 0}, {inRef, s("i"), "main.Cell iso; main.Cell iso^", "main.Cell iso^", 0}, {inRef, s("i"), "main.Cell ref; main.Cell iso!", "", ErrResult}, {inRef, s("t"), "main.Cell ref; main.Cell trn^", "main.Cell trn^", 0}, {inRef, s("t"), "main.Cell trn; main.Cell trn^", "main.Cell box", 0}, {inRef, s("t"), "main.Cell iso; main.Cell iso^", "main.Cell tag", 0},
		{inRef, s("b"), "main.Cell iso; main.Cell trn^", "", ErrSend}, {inRef, s("g"), "main.Cell iso; main.Cell ref", "", ErrSend}, {inRef, s("g"), "main.Cell iso; main.Cell iso!", "main.Cell tag", 0}, {inRef, s("u"), "main.Cell iso; U8 val", "U8 val", 0}, {inRef, s("o"), "main.Cell ref; None val", "(main.Cell iso^ | None val)", 0},
		{inRef, s("c"), "main.Cell ref; -", "", ErrSend}, // a value that never is fits, but is nothing that can be stored
		{inRef, s("c"), "U8 val; main.Cell ref", "", api.ErrType}, {inRef, s("c"), "-; main.Cell ref", "", api.ErrType}, {inRef, s("x"), "main.Cell box; U8 val", "", api.ErrNone}, {inRef, s("c"), "(main.Cell ref | None val); U8 val", "", api.ErrType},

		{inRef, s("d"), "main.Cell ref; main.Cell val", "", ErrPlace}, {inNew, s("d"), "main.Cell ref; main.Cell val", "", ErrPlace}, {inRef, own("d"), "main.Cell ref; main.Cell val", "", ErrPlace}, {inBox, own("d"), "main.Cell box; U8 val", "", ErrPlace}, {inNew, own("d"), "main.Cell ref; main.Cell val", "(None val | main.Cell val)", 0},
		{inNew, own("c"), "main.Cell ref; main.Cell ref", "(None val | main.Cell ref)", 0}, {inNew, s("c"), "main.Cell ref; main.Cell ref", "main.Cell ref", 0}, {inRef, own("c"), "main.Cell ref; main.Cell ref", "main.Cell ref", 0}, {inNew, own("i"), "main.Cell ref; main.Cell iso^", "(None val | main.Cell iso^)", 0}, {inNew, own("o"), "main.Cell ref; None val", "(None val | main.Cell iso^)", 0},
		{"main.Act go", own("cell"), "main.Act ref; main.Cell iso^", "main.Cell ref", 0}, {"main.Act create", own("cell"), "main.Act ref; main.Cell iso^", "(None val | main.Cell ref)", 0}, {inNew, own("c"), "main.Cell box; main.Cell ref", "", ErrView},
	})
	p, i := withEntity(t, cells(), "main.Cell", func(e *api.Entity) {
		e.Fields = []api.Field{{Name: "f", Type: typ("$A")}, {Name: "c", Type: typ("U8 val")}, {Name: "c", Type: typ("U16 val")}}
	})
	_ = i
	testRules(t, p, nil, nil, []ruled{{inRef, g("f"), "main.Cell ref", "", ErrView}, {inRef, s("f"), "main.Cell ref; U8 val", "", ErrResult}, {inRef, s("f"), "main.Cell ref; $A", "", ErrSend}, {inRef, g("c"), "main.Cell ref", "U8 val", 0}})
}

func TestRuleDeclarations(t *testing.T) {
	for _, op := range []int{api.OpVar, api.OpLet} {
		d := func(s string, kids ...api.Expr) api.Expr { return ex(op, "x: "+s, kids...) }
		testRules(t, cells(), nil, nil, []ruled{
			{inBox, d("U8 val"), "", "None val", 0}, {inBox, d("U8 val", this()), "U8 val", "None val", 0}, {inBox, d("U8 val", this()), "-", "None val", 0}, {inBox, d("U8 val", this()), "U16 val", "", ErrResult}, {inBox, d("main.Cell iso", this()), "main.Cell iso!", "", ErrResult}, {inBox, d("main.Cell ref", this()), "main.Cell iso^", "None val", 0},
			{inBox, d("$A"), "", "", api.ErrForm}, {inBox, d("this"), "", "", api.ErrForm}, {inBox, d("this ref"), "", "None val", 0}, {inBox, d("(this ref -> main.Cell ref)"), "", "", api.ErrForm}, {inBox, d("Array[(this ref -> main.Cell ref)] ref"), "", "", api.ErrForm}, {inBox, d("(main.Sound ref & main.Named val)"), "", "", api.ErrForm}, {inBox, d("$A", this()), "U8 val", "", api.ErrForm},
			{inBox, d("(main.Sound ref & main.Named ref)", this()), "main.Dog ref", "None val", 0}, {inBox, d("(main.Sound box | None val)", this()), "main.Cat val", "None val", 0}, {inBox, d("(main.Sound box | None val)", this()), "(main.Cat val | U8 val)", "", ErrResult},
		})
	}
}

func TestRuleBranches(t *testing.T) {
	x, none := this(), noExpr()
	iff := func(k api.Expr) api.Expr { return ex(api.OpIf, "", x, x, k) }
	while := func(k api.Expr) api.Expr { return ex(api.OpWhile, "", x, x, k) }
	try := func(k api.Expr) api.Expr { return ex(api.OpTry, "", x, k, x) }
	testRules(t, cells(), nil, nil, []ruled{
		{inBox, seq(), "", "None val", 0}, {inBox, seq(x, x), "U8 val; U16 ref^", "U16 ref^", 0}, {inBox, seq(x, x), "U8 val; -", "", 0}, {inBox, seq(x, x), "-; U8 val", "U8 val", 0},
		{inBox, iff(x), "Bool val; U8 val; U16 val", "(U16 val | U8 val)", 0}, {inBox, iff(x), "Bool val; U8 val; -", "U8 val", 0}, {inBox, iff(x), "Bool val; -; -", "", 0}, {inBox, iff(none), "Bool val; U8 val; -", "(None val | U8 val)", 0}, {inBox, iff(none), "Bool val; -; -", "None val", 0},
		{inBox, iff(x), "-; U8 val; U8 val", "U8 val", 0}, {inBox, iff(x), "U8 val; U8 val; U8 val", "", api.ErrType}, {inBox, iff(x), "(Bool val | None val); U8 val; U8 val", "", api.ErrType}, {inBox, iff(x), "Bool tag; U8 val; U8 val", "", api.ErrType}, {inBox, iff(x), "Bool val; (U8 val | U16 val); (U16 val | None val)", "(None val | U16 val | U8 val)", 0},
		{inBox, while(none), "Bool val; U8 val; -", "(None val | U8 val)", 0}, {inBox, while(x), "Bool val; U8 val; U16 val", "(None val | U16 val | U8 val)", 0}, {inBox, while(x), "Bool val; -; -", "None val", 0}, {inBox, while(x), "U8 val; -; -", "", api.ErrType}, {inBox, while(x), "-; -; U8 val", "(None val | U8 val)", 0},
		{inBox, try(x), "U8 val; U16 val; U32 val", "(U16 val | U8 val)", 0}, {inBox, try(none), "U8 val; -; U32 val", "(None val | U8 val)", 0}, {inBox, try(x), "-; U8 val; -", "U8 val", 0}, {inBox, try(none), "-; -; -", "None val", 0}, {inBox, try(x), "-; -; -", "", 0},
		{inBox, ex(api.OpError, ""), "", "", 0}, {inBox, ex(api.OpBreak, ""), "", "", 0}, {inBox, ex(api.OpContinue, ""), "", "", 0},
	})
	wide := api.Type{Kind: api.TypeUnion}
	for i := range api.MaxList {
		wide.Args = append(wide.Args, types.Named("a.C"+strconv.Itoa(i), api.Val, nil))
	}
	i, j := at(t, cells(), "main.Cell", "get")
	for _, c := range []api.Expr{iff(x), while(x), try(x)} {
		kids := []api.Type{typ("Bool val"), typ("U8 val"), wide}
		if c.Op == api.OpTry {
			kids = []api.Type{wide, typ("U8 val"), typ("Bool val")}
		}
		if got, e := Rule(cells(), Context{Entity: i, Method: j}, c, kids); e != api.ErrSize || text(got) != "" {
			t.Errorf("%s: error %d", show(c), e)
		}
		kids[1] = api.Type{Name: "x"} // of the Kind 0, but not zero
		if got, e := Rule(cells(), Context{Entity: i, Method: j}, c, kids); e != api.ErrForm || text(got) != "" {
			t.Errorf("%s of a wrong type: error %d", show(c), e)
		}
	}
}

func TestRuleReturns(t *testing.T) {
	back, empty := ex(api.OpReturn, "", this()), ex(api.OpReturn, "")
	testRules(t, cells(), nil, []int{1}, []ruled{
		{inBox, back, "main.Cell box", "", 0}, {inBox, back, "main.Cell ref", "", 0}, {inBox, back, "main.Cell tag", "", ErrResult}, {inBox, back, "-", "", 0}, {inBox, empty, "", "", ErrResult}, {inBox, back, "None val", "", ErrResult},
		{inNew, empty, "", "", 0}, {inNew, back, "None val", "", 0}, {inNew, back, "main.Cell ref", "", ErrResult}, {"main.Act go", empty, "", "", 0}, {"main.Act go", back, "U8 val", "", ErrResult}, {"main.Act go", back, "-", "", 0},
		{"main.Cell send", empty, "", "", 0}, {"main.Cell send", back, "U8 val", "", ErrResult}, {"main.Cell send", back, "None tag", "", ErrResult},
	})
	p, _, _ := with(t, cells(), "main.Cell", "get", func(m *api.Method) { m.Result = typ("(this -> main.Cell ref)") })
	testRules(t, p, nil, nil, []ruled{{inBox, back, "main.Cell box", "", 0}, {inBox, back, "main.Cell tag", "", ErrResult}})
	p, _, _ = with(t, cells(), "main.Cell", "get", func(m *api.Method) { m.Result = api.Type{} })
	testRules(t, p, nil, nil, []ruled{{inBox, back, "None val", "", 0}, {inBox, empty, "", "", 0}, {inBox, back, "U8 val", "", ErrResult}})
	p, _, _ = with(t, cells(), "main.Cell", "get", func(m *api.Method) { m.Result, m.Cap = typ("(this -> main.Cell ref)"), api.Tag })
	testRules(t, p, nil, nil, []ruled{{inBox, back, "main.Cell box", "", api.ErrCap}, {inBox, empty, "", "", api.ErrCap}})
	p, _, _ = with(t, cells(), "main.Cell", "create", func(m *api.Method) { m.Result = typ("U8 val") })
	testRules(t, p, nil, nil, []ruled{{inNew, back, "U8 val", "", ErrResult}, {inNew, back, "None val", "", 0}})
}

func TestRuleRecover(t *testing.T) {
	r := func(s string) api.Expr { return ex(api.OpRecover, ": this"+s, this()) }
	testRules(t, cells(), nil, nil, []ruled{
		{inBox, r(" iso"), "main.Cell ref", "main.Cell iso", 0}, {inBox, r(""), "main.Cell ref", "main.Cell iso^", 0}, {inBox, r(""), "(main.Cell ref, main.Cell box)", "(main.Cell iso^, main.Cell val)", 0}, {inBox, r(" iso^"), "main.Cell ref", "main.Cell iso", 0},
		{inBox, r(" val"), "main.Cell ref", "main.Cell val", 0}, {inBox, r(" val"), "main.Cell box", "main.Cell val", 0}, {inBox, r(" iso"), "main.Cell box", "", ErrSend}, {inBox, r(" iso"), "main.Cell trn!", "", ErrSend}, {inBox, r(" tag"), "main.Cell iso!", "main.Cell tag", 0}, {inBox, r(" box"), "main.Cell iso!", "", ErrSend},
		{inBox, r(" ref"), "(main.Cell trn | None val)", "", ErrSend}, {inBox, r(" val"), "(main.Cell trn | None val)", "(main.Cell val | None val)", 0}, {inBox, r(" iso"), "-", "", 0}, {inBox, r(""), "-", "", 0}, {inBox, r(" iso"), "$A", "", ErrSend}, {inBox, r(" tag"), "main.Cell tag", "main.Cell tag", 0},
	})
	// The example of the chapter: a new main.Cell ref is recovered to main.Cell iso^ by the cap 0.
	testRules(t, cells(), nil, nil, []ruled{{inBox, ex(api.OpRecover, ": this", this()), "main.Cell ref", "main.Cell iso^", 0}})
}

func TestRuleTuples(t *testing.T) {
	x := this()
	tup := func(n int) api.Expr { return ex(api.OpTuple, "", slices.Repeat([]api.Expr{x}, n)...) }
	item := func(s string) api.Expr { return ex(api.OpItem, s, x) }
	big := "(" + strings.TrimSuffix(strings.Repeat("U8 val, ", 60), ", ") + ")"
	deep := strings.Repeat("(U8 val, ", 19) + "U8 val" + strings.Repeat(")", 19)
	testRules(t, cells(), nil, nil, []ruled{
		{inBox, tup(2), "U8 val; main.Cell iso!", "(U8 val, main.Cell iso!)", 0}, {inBox, tup(3), "U8 val; -; U8 val", "", 0}, {inBox, tup(2), "-; -", "", 0}, {inBox, tup(2), "U8 val; (U8 val, U8 val)", "(U8 val, (U8 val, U8 val))", 0},
		{inBox, tup(4), big + "; " + big + "; " + big + "; " + big, "(" + big + ", " + big + ", " + big + ", " + big + ")", 0}, {inBox, tup(5), big + "; " + big + "; " + big + "; " + big + "; " + big, "", api.ErrSize}, {inBox, tup(2), "U8 val; " + deep, "", api.ErrSize},
		{inBox, item("0"), "(U8 val, U16 val)", "U8 val", 0}, {inBox, item("1"), "(U8 val, U16 val)", "U16 val", 0}, {inBox, item("2"), "(U8 val, U16 val)", "", api.ErrRange}, {inBox, item("63"), "(U8 val, U16 val)", "", api.ErrRange},
		{inBox, item("0"), "U8 val", "", api.ErrType}, {inBox, item("9"), "-", "", api.ErrType}, {inBox, item("0"), "((U8 val, U8 val) | (U8 val, U8 val))", "", api.ErrType}, {inBox, item("0"), "((U8 val, U8 val) & (U8 val, U8 val))", "", api.ErrType},
	})
	i, j := at(t, cells(), "main.Cell", "get")
	if _, e := Rule(cells(), Context{Entity: i, Method: j}, tup(2), []api.Type{typ("U8 val"), {Kind: 9}}); e != api.ErrSize {
		t.Errorf("of a wrong type: error %d", e)
	}
}
