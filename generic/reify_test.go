package generic_test

import (
	"fmt"
	"slices"
	"strings"
	"testing"

	"hackamore/api"
	. "hackamore/generic"
	"hackamore/names"
)

// main has a body of the constructor create of main.Main.
func reified(t *testing.T, x api.Expr, l ...api.Entity) ([]api.Entity, api.Errno) {
	t.Helper()
	p := program(x, l...)
	before := fmt.Sprint(p)
	got, e := Reify(p, "main.Main")
	if fmt.Sprint(p) != before {
		t.Error("Reify changed the program")
	}
	if e != api.OK && len(got) > 0 {
		t.Errorf("entities with the error %d", e)
	}
	return got, e
}

func namesOf(p []api.Entity) string {
	var l []string
	for _, e := range p {
		l = append(l, e.Name)
	}
	return strings.Join(l, "; ")
}

func variable(l ...string) api.Expr {
	var kids []api.Expr
	for _, s := range l {
		kids = append(kids, api.Expr{Op: api.OpVar, Text: "x", Types: typs(s)})
	}
	return seq(kids...)
}

// TestReifyExample is that of chapter 10, in texts.
func TestReifyExample(t *testing.T) {
	p, e := names.Program(map[string]string{"main": "class Cell[A: Any #any]\n  var a: A\n  new create(a': A) => a = consume a'\n" +
		"actor Main\n  let c: Cell[U32 val] ref\n  new create(env: Env) => c = Cell[U32](U32(1))\nclass Unused[A]\nclass Alone\n"}, nil)
	if e != api.OK {
		t.Fatalf("Program: error %d", e)
	}
	got, e := Reify(p, "main.Main")
	if e != api.OK {
		t.Fatalf("Reify: error %d", e)
	}
	cell, ok := names.Find(got, "main.Cell[U32 val]")
	if !ok || len(cell.Bounds) > 0 || text(cell.Fields[0].Type) != "U32 val" || text(cell.Methods[0].Result) != `"main.Cell[U32 val]" ref^` {
		t.Errorf("the cell: %v", cell)
	}
	if i := slices.IndexFunc(got, func(e api.Entity) bool { return strings.HasPrefix(e.Name, "main.") }); namesOf(got[i:]) != "main.Cell[U32 val]; main.Main" {
		t.Errorf("Reify: %s", namesOf(got[i:]))
	}
	if _, ok := names.Find(got, "Array[String val]"); !ok {
		t.Error("no array of strings, which Env mentions")
	}
	m, _ := names.Find(got, "main.Main")
	if x := m.Methods[0].Body.Kids[1]; x.Op != api.OpNew || text(x.Types[0]) != `"main.Cell[U32 val]" ref` {
		t.Errorf("the constructor: %v", x)
	}
}

// TestInstances has what is needed, in its order.
func TestInstances(t *testing.T) {
	cell, pair := over(entity(api.Class, "main.Cell", nil), "A"), over(entity(api.Class, "main.Pair", nil), "A", "B")
	for i, x := range []struct {
		l    []api.Entity
		body api.Expr
		want string
	}{
		{[]api.Entity{cell, pair}, api.Expr{}, ""}, {[]api.Entity{cell}, variable("main.Cell[U32 val^] ref!"), "main.Cell[U32 val]"}, {[]api.Entity{cell}, variable("main.Cell[Any val] ref", "main.Cell[U32 val] tag", "(None val, main.Cell[Any val] val)"), "main.Cell[Any val]; main.Cell[U32 val]"},
		{[]api.Entity{cell, pair}, variable("main.Pair[main.Cell[U32 val] ref, (None val | Any tag)] val"), "main.Cell[U32 val]; main.Pair[main.Cell[U32 val] ref, (Any tag | None val)]"}, {[]api.Entity{pair, cell}, variable("main.Cell[U32 val] ref", "main.Pair[U32 val, U32 iso] ref"), "main.Pair[U32 val, U32 iso]; main.Cell[U32 val]"},
		{[]api.Entity{cell, pair}, variable("main.Cell[(U32 val | U32 val)] ref", "(this ref -> main.Cell[(this box -> U32 ref)] ref)"), "main.Cell[U32 box]; main.Cell[U32 val]"},
		{[]api.Entity{cell, fields(over(entity(api.Class, "main.List", typs("main.Up[$A] ref")), "A"), "main.Cell[($A | U32 val)] ref"), over(entity(api.Trait, "main.Up", nil, body(fun("m", "$A", "main.Cell[$A] ref"), unit("U32"))), "A")}, variable("main.List[None val] ref"),
			"main.Cell[(None val | U32 val)]; main.Cell[None val]; main.List[None val]; main.Up[None val]"},
		{[]api.Entity{entity(api.Class, "Plain", typs("main.T ref")), entity(api.Trait, "main.T", nil), entity(api.Trait, "main.S", nil), over(entity(api.Class, "Open", nil), "A")}, api.Expr{}, "Plain; main.T"},
		{[]api.Entity{entity(api.Class, "main.Own", typs("main.T ref")), entity(api.Trait, "main.T", nil, body(fun("m", ""), variable("main.Late ref"))), entity(api.Class, "main.Late", nil)}, variable("main.Own ref"), "main.Own; main.T; main.Late"},
	} {
		got, e := reified(t, x.body, x.l...)
		if e != api.OK {
			t.Errorf("program %d: error %d", i, e)
			continue
		}
		want := "Any; U32; None; " + x.want + "; main.Main"
		if got := namesOf(got); got != strings.Replace(want, "; ; ", "; ", 1) {
			t.Errorf("program %d: %s, want %s", i, got, want)
		}
	}
	// The first entity with a name counts, and the body of main stays as it is, but for names.
	got, e := reified(t, variable("main.Cell[main.Cell[U32 val] ref] iso^"), cell, entity(api.Actor, "main.Cell", nil))
	x := got[len(got)-1].Methods[0].Body.Kids[0]
	if e != api.OK || namesOf(got) != "Any; U32; None; main.Cell[U32 val]; main.Cell[main.Cell[U32 val] ref]; main.Main" || text(x.Types[0]) != `"main.Cell[main.Cell[U32 val] ref]" iso^` {
		t.Errorf("nested: %s, %v, error %d", namesOf(got), x, e)
	}
}

func TestVariants(t *testing.T) {
	swap := bound(fun("swap", "$X", "$X"), "X: Any tag")
	swap.Body = call("twice", "($X, $X)")
	twice := bound(fun("twice", "$Y", "main.Cell[$Y] ref"), "Y: Any tag")
	cell := over(entity(api.Class, "main.Cell", nil), "A")
	methods := func(p []api.Entity, name string) string {
		e, _ := names.Find(p, name)
		var l []string
		for _, m := range e.Methods {
			var params []string
			for _, q := range m.Params {
				params = append(params, text(q.Type))
			}
			l = append(l, m.Name+"("+strings.Join(params, ", ")+"): "+text(m.Result))
		}
		return strings.Join(l, "; ")
	}
	use := entity(api.Class, "main.Use", nil, fun("first", "U32 val"), swap, fun("last", "U32 val"), twice)
	other := over(entity(api.Class, "main.Other", nil, bound(fun("swap", "$A", "$Z"), "Z: main.Some[$A] ref"), fun("swap", "None val")), "A")
	some := over(entity(api.Trait, "main.Some", nil), "A")
	has := entity(api.Class, "main.Has", typs("main.Some[U32 val] val"))
	x := seq(variable("main.Use ref", "main.Other[U32 val] ref", "main.Has ref"), call("swap", "main.Has ref^"), call("swap", "None val"), call("swap", "main.Has ref"))
	got, e := reified(t, x, cell, use, other, some, has)
	if e != api.OK {
		t.Fatalf("Reify: error %d", e)
	}
	// A tuple is no Any tag: twice has no variants.
	if s, want := methods(got, "main.Use"), "first(): U32 val; swap[None val](None val): None val; swap[main.Has ref](main.Has ref): main.Has ref; last(): U32 val"; s != want {
		t.Errorf("main.Use: %s, want %s", s, want)
	}
	if s, want := methods(got, "main.Other[U32 val]"), "swap[main.Has ref](main.Has ref): U32 val; swap(): None val"; s != want {
		t.Errorf("main.Other: %s, want %s", s, want)
	}
	m, _ := names.Find(got, "main.Main")
	var calls []string
	for _, k := range m.Methods[0].Body.Kids[1:] {
		calls = append(calls, fmt.Sprint(k.Text, len(k.Types)))
	}
	if s, want := strings.Join(calls, " "), "swap[main.Has ref]0 swap[None val]0 swap[main.Has ref]0"; s != want {
		t.Errorf("the calls: %s, want %s", s, want)
	}
	e2, _ := names.Find(got, "main.Use")
	if b := e2.Methods[2].Body; b.Text != "twice[(main.Has ref, main.Has ref)]" || len(b.Types) > 0 {
		t.Errorf("the body of a variant: %v", b)
	}
}

// TestMore has variants whose bodies need more, and constructors with type parameters.
func TestMore(t *testing.T) {
	link := bound(fun("link", "", "$X"), "X: Any box")
	link.Body = seq(call("link", "main.Cell[U32 val] box"), variable("main.Cell[$X] ref"))
	make := bound(fun("make", "", "$M"), "M: Any tag")
	make.Kind = api.New
	make.Body = api.Expr{Op: api.OpNew, Text: "make", Types: typs("main.Cell[None val] ref", "main.End val")}
	cell := over(entity(api.Class, "main.Cell", nil, link, make), "A")
	end := entity(api.Class, "main.End", nil)
	got, e := reified(t, api.Expr{Op: api.OpNew, Text: "make", Types: typs("main.Cell[U32 val] ref", "None val"), Kids: []api.Expr{call("link", "U32 val")}}, cell, end)
	if e != ErrGrow && e != api.OK {
		t.Fatalf("Reify: error %d", e)
	}
	// X goes into the argument of a cell, the cell is no argument of link that has X: it ends.
	if e != api.OK || namesOf(got) != "Any; U32; None; main.Cell[None val]; main.Cell[U32 val]; main.Cell[main.Cell[U32 val] box]; main.End; main.Main" {
		t.Fatalf("Reify: %s, error %d", namesOf(got), e)
	}
	for _, name := range []string{"main.Cell[None val]", "main.Cell[U32 val]", "main.Cell[main.Cell[U32 val] box]"} {
		x, _ := names.Find(got, name)
		if s, want := shown(x), "link[U32 val] link[main.Cell[U32 val] box] make[None val] make[main.End val]"; s != want {
			t.Errorf("%s: %s, want %s", name, s, want)
		}
	}
	x, _ := names.Find(got, "main.Main")
	if b := x.Methods[0].Body; b.Text != "make[None val]" || len(b.Types) != 1 || text(b.Types[0]) != `"main.Cell[U32 val]" ref` {
		t.Errorf("the construction: %v", b)
	}
}

// TestReifyErrors has errors ahead of one another, and the least of those of what is needed.
func TestReifyErrors(t *testing.T) {
	cell := over(entity(api.Class, "main.Cell", nil), "A")
	create := api.Method{Kind: api.New, Name: "create", Cap: api.Tag}
	actor := func(m api.Method, l ...string) []api.Entity {
		return []api.Entity{over(entity(api.Actor, "main.Main", nil, m), l...), entity(api.Class, "", nil)}
	}
	open := bound(create, "A: Any tag")
	fun1 := fun("create", "")
	for i, p := range [][]api.Entity{
		nil, {entity(api.Class, "main.Main", nil, create), entity(api.Class, "", nil)}, actor(create, "A"), actor(open), actor(fun1), {entity(api.Actor, "main.Main", nil), entity(api.Actor, "main.Main", nil, create)},
	} {
		if got, e := Reify(p, "main.Main"); e != api.ErrNone || len(got) > 0 {
			t.Errorf("without main %d: error %d", i, e)
		}
	}
	if _, e := Reify(append(program(api.Expr{}), entity(api.Class, "", nil), fields(cell, "main.Cell[main.Cell[$A] ref] ref")), "main.Main"); e != api.ErrForm {
		t.Errorf("the error of Whole: error %d", e)
	}
	long := strings.Repeat("n", 297)
	name := func(n int) string { return "main." + strings.Repeat("n", n-5) }
	bad := fields(over(entity(api.Class, "main.Bad", nil), "A"), "main.Cell[$B] ref")
	tuple := over(entity(api.Class, "main.Tuple", nil), "A")
	tuple.Bounds[0].Type = typ("(Any tag, Any tag)")
	at := fields(tuple, "($A -> U32 ref)")
	at.Name = "main.At"
	set := entity(api.Class, "main.Set", nil, fun("m", ""))
	set.Methods[0].Bounds = []api.Bound{{Name: "M", Type: api.Type{Kind: api.TypeName, Name: "Any", Cap: api.CapAny}}}
	for i, x := range []struct {
		body api.Expr
		l    []api.Entity
		want api.Errno
	}{
		{api.Expr{}, []api.Entity{cell, fields(over(entity(api.Class, "main.List", nil), "A"), "main.List[main.Cell[$A] ref] ref")}, ErrGrow}, {variable("main.Gone ref"), nil, api.ErrNone}, {variable("main.Gone[main.Cell ref] ref"), []api.Entity{cell}, api.ErrNone}, {variable("main.Cell ref", "main.Gone ref"), []api.Entity{cell}, api.ErrArg},
		{variable("main.Cell[main.Gone ref, U32 val] ref"), []api.Entity{cell}, api.ErrArg}, {variable("main.Cell[main.Gone ref] ref"), []api.Entity{cell}, api.ErrNone}, {variable("$A"), nil, ErrUnbound}, {variable("main.Cell[$A] ref"), []api.Entity{cell}, ErrUnbound}, {variable("main.Bad[U32 val] ref"), []api.Entity{bad, cell}, ErrUnbound},
		{variable("main.Cell[this] ref"), []api.Entity{cell}, ErrBound}, {variable("main.Tuple[U32 val] ref"), []api.Entity{tuple}, ErrBound}, {variable("main.Tuple[U32 val] ref", "main.Cell[(this tag -> U32 ref)] ref"), []api.Entity{tuple, cell}, api.ErrCap}, {variable("main.Cell[(this ref -> $A)] ref"), []api.Entity{cell}, api.ErrForm},
		{variable("main.At[(U32 val, U32 val)] ref"), []api.Entity{at}, api.ErrForm}, {variable(name(300) + " ref"), []api.Entity{entity(api.Class, name(300), nil)}, api.OK}, {variable(name(298) + "[U32 val] ref"), []api.Entity{over(entity(api.Class, name(298), nil), "A")}, api.ErrLarge},
		{call(long, "U32 val"), nil, api.ErrLarge}, {call("gone", "U32 val"), nil, api.OK}, {call("gone", "$A"), nil, ErrUnbound}, {call("gone", "(this tag -> U32 ref)"), nil, api.ErrCap}, {call("gone", "main.Gone ref"), nil, api.ErrNone}, {variable("main.Set ref"), []api.Entity{set}, api.ErrForm},
		{variable("main.Cell[U32 val] ref", `"main.Cell[U32 val]" ref`), []api.Entity{cell, entity(api.Class, "main.Cell[U32 val]", nil)}, api.ErrTwice}, {variable("main.Cell[U32 val] ref"), []api.Entity{cell, entity(api.Class, "main.Cell[U32 val]", nil)}, api.OK}, {variable(`"main.Cell[U32 val]" ref`, "main.Cell[U32 val] ref", "$A"), []api.Entity{cell, entity(api.Class, "main.Cell[U32 val]", nil)}, ErrUnbound},
		{variable("main.Hide ref"), []api.Entity{entity(api.Class, "main.Hide", nil, bound(fun("m", "main.Gone ref", "$Q"), "X: Any tag"))}, api.OK}, {seq(call("m", "U32 val"), variable("main.Hide ref")), []api.Entity{entity(api.Class, "main.Hide", nil, bound(fun("m", "main.Gone ref"), "X: Any tag"))}, api.ErrNone},
		{seq(call("m", "U32 val"), variable("main.Hide ref")), []api.Entity{entity(api.Class, "main.Hide", nil, bound(fun("m", "($X -> U32 ref)"), "X: Any tag"))}, api.OK}, {seq(call("m", "(U32 val, U32 val)"), variable("main.Hide ref")), []api.Entity{entity(api.Class, "main.Hide", nil, bound(fun("m", "($X -> U32 ref)"), "X: Any tag"))}, api.OK},
		{seq(call("m", "(U32 val, U32 val)"), variable("main.Hide ref")), []api.Entity{entity(api.Class, "main.Hide", nil, bound(fun("m", "($X -> U32 ref)"), "X: (Any tag, Any tag)"))}, api.ErrForm},
	} {
		if _, e := reified(t, x.body, x.l...); e != x.want {
			t.Errorf("Reify %d: error %d, want %d", i, e, x.want)
		}
	}
}

// TestReifyFull has as many instances, and methods, as there may be, and one more.
func TestReifyFull(t *testing.T) {
	cell := over(entity(api.Class, "main.Cell", nil), "A")
	cells := func(n int) api.Expr {
		var l []string
		for i := range n {
			names, tuple := []string{"U32 val", "None val", "Any val"}, []string{}
			for range 5 {
				tuple = append(tuple, names[i%3])
				i /= 3
			}
			l = append(l, "main.Cell[("+strings.Join(tuple, ", ")+")] ref")
		}
		return variable(l...)
	}
	cell.Bounds[0].Type = typ("$A")                                         // so each argument fulfils it
	for n, want := range map[int]api.Errno{196: api.OK, 197: api.ErrFull} { // with Any, U32, None and main.Main
		if got, e := reified(t, cells(n), cell); e != want || want == api.OK && len(got) != api.MaxUnits {
			t.Errorf("%d cells: %d entities, error %d, want %d", n, len(got), e, want)
		}
		if _, e := reified(t, seq(cells(n), variable("main.Gone ref")), cell); e == api.OK || want == api.ErrFull && e != want {
			t.Errorf("%d cells and an error: error %d", n, e)
		}
	}
	var calls []api.Expr
	for i := range api.MaxList {
		calls = append(calls, call("m", fmt.Sprintf("main.C%d val", i)))
	}
	var l []api.Entity
	for i := range api.MaxList {
		l = append(l, entity(api.Class, fmt.Sprintf("main.C%d", i), nil))
	}
	one := entity(api.Class, "main.One", nil, bound(fun("m", "$X"), "X: Any tag"))
	two := entity(api.Class, "main.Two", nil, bound(fun("m", "$X"), "X: Any tag"), fun("n", ""))
	if got, e := reified(t, seq(append(calls, variable("main.One ref"))...), append(l, one)...); e != api.OK || len(got[len(got)-2].Methods) != api.MaxList {
		t.Errorf("%d variants: error %d", api.MaxList, e)
	}
	if _, e := reified(t, seq(append(calls, variable("main.Two ref"))...), append(l, two)...); e != api.ErrFull {
		t.Errorf("%d methods: error %d", api.MaxList+1, e)
	}
	if _, e := reified(t, seq(append(slices.Clone(calls[1:]), variable("main.Two ref"))...), append(l, two)...); e != api.OK {
		t.Errorf("%d methods: error %d", api.MaxList, e)
	}
	// What Whole puts in counts, too.
	var base, own []api.Method
	for i := range 40 {
		base = append(base, body(fun(fmt.Sprintf("b%d", i), ""), unit("U32")))
		own = append(own, body(fun(fmt.Sprintf("o%d", i), ""), unit("U32")))
	}
	if _, e := reified(t, variable("main.Many ref"), entity(api.Trait, "main.Base", nil, base...), entity(api.Class, "main.Many", typs("main.Base ref"), own...)); e != api.ErrFull {
		t.Errorf("80 methods: error %d", e)
	}
}
