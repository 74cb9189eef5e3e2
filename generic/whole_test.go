package generic_test

import (
	"fmt"
	"reflect"
	"slices"
	"strings"
	"testing"

	"hackamore/api"
	. "hackamore/generic"
	"hackamore/internal/sample"
	"hackamore/names"
	"hackamore/subtype"
	"hackamore/types"
)

// traits are a diamond of traits, and entities that provide them.
func traits() []api.Entity {
	has := func(name, unitName string) api.Method { return body(fun(name, "U32 val"), unit(unitName)) }
	create := has("create", "new")
	create.Kind = api.New
	be := has("act", "be")
	be.Kind = api.Be
	return []api.Entity{
		entity(api.Trait, "Top", nil, has("m", "Top"), fun("n", "U32 val"), create),
		entity(api.Trait, "Left", typs("Top ref"), has("m", "Left"), fun("only", "U32 val")),
		entity(api.Trait, "Right", typs("Top ref"), has("m", "Right"), has("n", "Right"), be),
		entity(api.Class, "One", typs("Left val"), fun("n", "U32 val"), fun("only", "U32 val")),
		entity(api.Class, "Two", typs("Left val", "Right val"), has("m", "Two"), fun("only", "None val")),
		entity(api.Class, "Both", typs("Left val", "Right val")),
		entity(api.Trait, "Join", typs("Left val", "Right val")),
		entity(api.Class, "Up", typs("Top val"), has("n", "Up")),
		entity(api.Actor, "Down", typs("Top val", "Left val"), has("n", "Down"), has("only", "Down")),
		entity(api.Class, "Bare", nil, fun("x", "U32 val"), create),
		over(entity(api.Trait, "Box", nil, body(fun("get", "$A", "$A!"), api.Expr{Op: api.OpVar, Text: "x", Types: typs("$A", "$M"), Kids: []api.Expr{{Op: api.OpThis}}})), "A"),
		over(entity(api.Class, "Pack", typs("Box[$B iso^] val")), "B"),
		entity(api.Class, "Gap", typs("Left val")),
	}
}

func TestFind(t *testing.T) {
	p := append(traits(), entity(api.Class, "Two", nil), entity(api.Class, strings.Repeat("n", 301), nil), over(entity(api.Class, "Wrong", nil, fun("m", "")), strings.Repeat("n", 61)))
	for s, want := range map[string]string{
		"Top m": "m Top of Top", "Top n": "n  of Top", "Top create": "create new of Top", "Left m": "m Left of Left", "Left n": "n  of Top", "Right n": "n Right of Right", "Left create": "error 122", "Left gone": "error 122",
		"One m": "m Left of Left", "One n": "n  of One", "One only": "only  of One", "One create": "error 122", "Two m": "m Two of Two", "Two n": "n Right of Right", "Two only": "only  of Two", "Two act": "act be of Right",
		"Both m": "error 122", "Both n": "n Right of Right", "Both only": "error 122", "Join m": "error 122", "Join only": "only  of Left", "Up m": "m Top of Top", "Up n": "n Up of Up", "Down m": "error 122",
		"Bare x": "x  of Bare", "Bare create": "create new of Bare", "Pack get": "get  of Box", "Gap only": "error 122", "Gap n": "error 122", "Gone m": "error 5", strings.Repeat("n", 301) + " m": "error 2", "Wrong m": "error 2",
	} {
		l := strings.Split(s, " ")
		m, from, e := Find(p, l[0], l[1])
		got := fmt.Sprintf("error %d", e)
		if e == api.OK {
			name := ""
			if m.Body.Op == api.OpUnit {
				name = m.Body.Types[0].Name
			}
			got = m.Name + " " + name + " of " + from
		} else if !reflect.DeepEqual(m, api.Method{}) || from != "" {
			t.Errorf("Find of %s: %v, %s, error %d", s, m, from, e)
		}
		if got != want {
			t.Errorf("Find of %s: %s, want %s", s, got, want)
		}
	}
	m, _, _ := Find(p, "Pack", "get")
	want := body(fun("get", "$B iso^", "$B iso!"), api.Expr{Op: api.OpVar, Text: "x", Types: typs("$B iso^", "$M"), Kids: []api.Expr{{Op: api.OpThis}}})
	if !reflect.DeepEqual(m, want) {
		t.Errorf("a default with other types: %v", m)
	}
	// The default of an own method without a body is only its body.
	q := append(traits(), entity(api.Class, "Own", typs("Box[U32 val] val"), fun("get", "Any tag", "U32 val")), entity(api.Trait, "Own2", typs("Own3 val"), fun("m", "U32 val")), entity(api.Trait, "Own3", nil, body(fun("m", "None val"), unit("deep"))))
	if m, from, _ := Find(q, "Own", "get"); from != "Box" || text(m.Result) != "Any tag" || m.Body.Op != api.OpVar {
		t.Errorf("an own method with a default: %v of %s", m, from)
	}
	if m, from, _ := Find(q, "Own2", "m"); from != "Own3" || text(m.Result) != "U32 val" || m.Body.Types[0].Name != "deep" {
		t.Errorf("an own method of a trait with a default: %v of %s", m, from)
	}
}

// shown writes the methods of an entity with their bodies.
func shown(e api.Entity) string {
	var l []string
	for _, m := range e.Methods {
		s := m.Name
		if m.Body.Op == api.OpUnit {
			s += "=" + m.Body.Types[0].Name
		}
		l = append(l, s)
	}
	return strings.Join(l, " ")
}

func TestWhole(t *testing.T) {
	drop := func(l ...string) []api.Entity {
		return slices.DeleteFunc(traits(), func(e api.Entity) bool { return slices.Contains(l, e.Name) })
	}
	p := drop("Both", "Down", "Gap", "Two")
	create := fun("m", "")
	create.Kind = api.New
	p = append(p, entity(api.Actor, "Twice", typs("Right val"), fun("m", "U32 val"), fun("m", "None val"), body(fun("n", "U32 val"), unit("own")), create), entity(api.Class, "One", typs("Gone val", "Left val")),
		entity(api.Interface, "Late", typs("Left val")))
	got, e := Whole(p)
	if e != api.OK || len(got) != len(p) {
		t.Fatalf("Whole: %d entities, error %d", len(got), e)
	}
	for i, want := range map[int]string{0: "m=Top n create=new", 1: "m=Left only", 3: "n only m=Left", 4: "", 5: "n=Up m=Top", 6: "x create=new", 7: "get", 8: "get", 9: "m=Right m=Right n=own m act=be", 10: "", 11: ""} {
		if s := shown(got[i]); s != want {
			t.Errorf("Whole of %s: %s, want %s", p[i].Name, s, want)
		}
	}
	if text(got[9].Methods[1].Result) != "None val" || got[9].Methods[3].Body.Op != 0 {
		t.Errorf("methods with one name: %v", got[9].Methods)
	}
	for i, x := range []struct {
		p    []api.Entity
		want api.Errno
	}{
		{nil, api.OK}, {traits(), ErrMethod}, {drop("Both"), ErrMethod}, {drop("Both", "Down"), ErrMethod}, {drop("Both", "Down", "Gap"), api.OK}, {[]api.Entity{entity(api.Class, "", nil)}, api.ErrForm}, {[]api.Entity{entity(api.Class, "A", nil), over(entity(api.Class, "A", typs("Top ref")), "")}, api.OK},
		{[]api.Entity{entity(api.Trait, "", nil)}, api.OK}, {[]api.Entity{entity(api.Class, "", nil, create)}, api.ErrForm}, {[]api.Entity{over(entity(api.Primitive, "A", nil), "\xff")}, api.ErrForm}, {[]api.Entity{entity(9, "", nil)}, api.OK},
	} {
		if got, e := Whole(x.p); e != x.want || e != api.OK && len(got) > 0 || e == api.OK && len(got) != len(x.p) {
			t.Errorf("Whole %d: error %d, want %d", i, e, x.want)
		}
	}
}

// isTame reports whether a program is one of those for which promise 10.2 says that Whole of Whole is Whole.
func isTame(p []api.Entity) bool {
	for _, e := range p {
		known := map[string]bool{}
		for _, m := range e.Methods {
			if known[m.Name] {
				return false
			}
			known[m.Name] = true
		}
		for _, t := range e.Provides {
			if t.Kind != api.TypeName || slices.ContainsFunc(t.Args, func(a api.Type) bool {
				return a.Kind != api.TypeName && a.Kind != api.TypeParam || len(a.Args) > 0
			}) {
				return false
			}
		}
	}
	return true
}

// hasOneOpen reports whether no two entities have methods with the same name of which one has type parameters.
func hasOneOpen(p []api.Entity) bool {
	open, times := map[string]bool{}, map[string]int{}
	for _, e := range p {
		for _, m := range e.Methods {
			open[m.Name] = open[m.Name] || len(m.Bounds) > 0
			times[m.Name]++
			if open[m.Name] && times[m.Name] > 1 {
				return false
			}
		}
	}
	return true
}

// TestSelection: promise 10.2.
func TestSelection(t *testing.T) {
	done := 0
	for seed := range uint64(6000) {
		pick := sample.Source(seed)
		p := sample.ProgramMaker{Pick: pick, Generic: seed%2 == 0}.Program()
		whole, e := Whole(p)
		if e != api.OK {
			continue
		}
		for i, x := range p {
			for _, name := range []string{"a", "b", "c", "newa"} {
				m, from, e := Find(p, x.Name, name)
				if e == api.OK && m.Body.Op != 0 {
					k, _ := subtype.Find(p, from)
					if !slices.ContainsFunc(p[k].Methods, func(n api.Method) bool { return n.Name == name && n.Body.Op != 0 }) {
						t.Fatalf("seed %d: the body of %s of %s is not of %s", seed, name, x.Name, from)
					}
				}
			}
			if isConcrete := x.Kind <= api.Primitive; !isConcrete && !reflect.DeepEqual(x, whole[i]) {
				t.Fatalf("seed %d: Whole changed %s", seed, x.Name)
			}
			keepsSubtypes(t, p, whole, x)
		}
		if isTame(p) {
			done++
			if again, e := Whole(whole); e != api.OK || !names.Equal(again, whole) {
				t.Fatalf("seed %d: Whole of Whole: error %d", seed, e)
			}
		}
	}
	if done < 500 {
		t.Errorf("only %d programs", done)
	}
}

// keepsSubtypes checks that an entity is a subtype in a whole program of what it was one of. (What it was by a method without a body
// that stands ahead of a default with other types, it may be no more.)
func keepsSubtypes(t *testing.T, p, whole []api.Entity, x api.Entity) {
	t.Helper()
	a := api.Type{Kind: api.TypeName, Name: x.Name, Cap: api.Ref}
	before, _ := subtype.Methods(p, a)
	after, _ := subtype.Methods(whole, a)
	for _, m := range before {
		i := slices.IndexFunc(after, func(n api.Method) bool { return n.Name == m.Name })
		if i < 0 {
			t.Fatalf("in Whole %s has no method %s", x.Name, m.Name)
		}
		m.Body = after[i].Body
		if !reflect.DeepEqual(m, after[i]) {
			return
		}
	}
	for _, b := range p {
		b := api.Type{Kind: api.TypeName, Name: b.Name, Cap: api.Ref}
		if subtype.Is(p, a, b) && !subtype.Is(whole, a, b) {
			t.Fatalf("in Whole %s is no %s", a.Name, b.Name)
		}
	}
}

func TestEdges(t *testing.T) {
	cell, list := over(entity(api.Class, "Cell", nil), "A"), over(entity(api.Class, "List", nil), "A")
	pair := over(entity(api.Class, "Pair", nil), "A", "B")
	show := func(l []Edge) string {
		var out []string
		for _, e := range l {
			s := e.From + ">" + e.To
			if e.Grows {
				s += "+"
			}
			out = append(out, s)
		}
		return strings.Join(out, " ")
	}
	withBound := func(e api.Entity, i int, s string) api.Entity {
		e.Bounds = slices.Clone(e.Bounds)
		e.Bounds[i].Type = typ(s)
		return e
	}
	method := func(x api.Expr) api.Entity {
		return over(entity(api.Class, "C", nil, body(bound(fun("m", "U32 val"), "X: Any tag"), x)), "A")
	}
	new := func(name string, l ...string) api.Expr {
		return api.Expr{Op: api.OpNew, Text: name, Types: typs(l...)}
	}
	within := func(name string, l ...api.Type) api.Type {
		return api.Type{Kind: api.TypeParam, Name: name, Args: l}
	}
	fieldOf := func(e api.Entity, arg api.Type) api.Entity {
		e.Fields = []api.Field{{Name: "f", Type: api.Type{Kind: api.TypeName, Name: "Cell", Args: []api.Type{arg}}}}
		return e
	}
	other := over(entity(api.Trait, "Other", nil, bound(fun("m", ""), "Y: Any tag"), bound(fun("m", ""), "Y: Any tag", "Z: Any tag"), fun("m", "")), "A")
	for i, x := range []struct {
		p    []api.Entity
		want string
	}{
		{nil, ""}, {[]api.Entity{cell, fields(list, "List[Cell[$A] ref] ref")}, "List.A>Cell.A List.A>List.A+"}, {[]api.Entity{fields(cell, "Cell[$A iso^] val", "Cell[$B] ref", "Gone[$A] ref", "Cell ref", "Pair[$A] val"), pair}, "Cell.A>Cell.A"},
		{[]api.Entity{fields(pair, "Pair[$B, $A] val")}, "Pair.A>Pair.B Pair.B>Pair.A"}, {[]api.Entity{fields(pair, "Pair[($A | $B), (this -> $A)] val")}, "Pair.A>Pair.A+ Pair.A>Pair.B+ Pair.B>Pair.A+"}, {[]api.Entity{cell, fields(list, "Cell[Cell[$A] ref] ref")}, "List.A>Cell.A List.A>Cell.A+"},
		{[]api.Entity{cell, fields(list, "(U32 val, (this -> Cell[($A -> $B)] ref))")}, "List.A>Cell.A+"}, {[]api.Entity{cell, withBound(pair, 1, "Cell[$A] tag")}, "Pair.A>Cell.A"}, {[]api.Entity{cell, over(entity(api.Class, "D", typs("Cell[$Q] ref", "Cell[Cell[U32 val] ref] ref")), "Q")}, "D.Q>Cell.A"},
		{[]api.Entity{cell, over(entity(api.Class, "C", nil, bound(fun("m", "Cell[$X] ref", "Cell[$A] ref", "Cell[$Y] ref"), "X: Cell[$X] ref")), "A")}, "C.A>Cell.A C.m.X>Cell.A"}, {[]api.Entity{cell, over(entity(api.Class, "C", nil, bound(fun("m", "Cell[$A] ref"), "A: Any tag")), "A")}, "C.m.A>Cell.A"},
		{[]api.Entity{method(call("m", "$X")), other}, "C.m.X>C.m.X C.m.X>Other.m.Y"}, {[]api.Entity{method(seq(call("m", "(U32 val, $A)"), call("n", "$A"), call("m"))), other}, "C.A>C.m.X+ C.A>Other.m.Y+"}, {[]api.Entity{method(call("m", "$X", "$A")), other}, "C.A>Other.m.Z C.m.X>Other.m.Y"},
		{[]api.Entity{method(new("m", "Other[U32 val] ref", "$X")), other}, "C.m.X>Other.m.Y"}, {[]api.Entity{method(new("m", "Other[$A] ref", "$X", "Cell[$A] ref")), other, cell}, "C.A>Cell.A C.A>Other.A C.A>Other.m.Z+ C.m.X>Other.m.Y"}, {[]api.Entity{method(new("m", "$Other", "$X")), other}, ""}, {[]api.Entity{method(new("m", "Other ref")), other}, ""},
		{[]api.Entity{method(api.Expr{Op: api.OpVar, Types: typs("Cell[$X] ref"), Kids: []api.Expr{call("q", "Cell[$A] ref")}}), cell}, "C.A>Cell.A C.m.X>Cell.A"}, {[]api.Entity{cell, over(entity(api.Class, "Cell", typs("Cell[Cell[$B] ref] ref")), "B")}, ""},
		{[]api.Entity{cell, {Name: "Raw", Bounds: []api.Bound{{Name: "A"}}, Fields: []api.Field{{Type: api.Type{Kind: 99, Args: []api.Type{{Kind: api.TypeName, Name: "Cell", Args: []api.Type{{Kind: api.TypeParam, Name: "A", Cap: 99}}}}}}}}}, "Raw.A>Cell.A"},
		{[]api.Entity{cell, fieldOf(list, within("A"))}, "List.A>Cell.A"}, {[]api.Entity{cell, fieldOf(list, within("A", within("A")))}, "List.A>Cell.A List.A>Cell.A+"}, {[]api.Entity{cell, fieldOf(list, within("A", within("Q", within("A"))))}, "List.A>Cell.A List.A>Cell.A+"}, {[]api.Entity{cell, fieldOf(list, within("Q", within("A")))}, "List.A>Cell.A+"},
		{[]api.Entity{over(entity(api.Class, "C", nil, body(bound(fun("m", "U32 val"), "X: Any tag"), api.Expr{Op: api.OpCall, Text: "m", Types: []api.Type{within("X", within("X"), within("A"))}})), "A")}, "C.A>C.m.X+ C.m.X>C.m.X C.m.X>C.m.X+"},
	} {
		l, e := Edges(x.p)
		if got := show(l); e != api.OK || got != x.want {
			t.Errorf("Edges %d: %s, error %d, want %s", i, got, e, x.want)
		}
	}
}

func TestEnds(t *testing.T) {
	cell, list := over(entity(api.Class, "Cell", nil), "A"), over(entity(api.Class, "List", nil), "A")
	a := func(name string, l ...string) api.Entity {
		return fields(over(entity(api.Class, name, nil), "A"), l...)
	}
	for i, x := range []struct {
		p    []api.Entity
		want string
	}{
		{nil, ""}, {[]api.Entity{cell, list}, ""}, {[]api.Entity{cell, fields(list, "List[Cell[$A] ref] ref")}, "List.A"}, {[]api.Entity{fields(list, "List[List[$A] ref] ref")}, "List.A"}, {[]api.Entity{cell, fields(list, "Cell[Cell[$A] ref] ref")}, ""},
		{[]api.Entity{a("P", "Q[$A] ref"), a("Q", "R[$A] ref"), a("R", "P[$A] ref")}, ""}, {[]api.Entity{a("P", "Q[$A] ref"), a("Q", "R[Q[$A] ref] ref"), a("R", "P[$A] ref")}, "Q.A"}, {[]api.Entity{a("P", "Q[(U32 val, $A)] ref"), a("Q", "R[(U32 val, $A)] ref"), a("R", "P[$A] ref")}, "P.A Q.A"},
		{[]api.Entity{a("P", "Q[(U32 val, $A)] ref"), a("Q", "R[(U32 val, $A)] ref", "Q[$A] ref"), a("R")}, ""}, {[]api.Entity{a("P", "Q[(U32 val, $A)] ref"), a("Q", "R[$A] ref"), a("R", "R[(U32 val, $A)] ref", "Q[$A] ref")}, "R.A"},
		{[]api.Entity{over(entity(api.Class, "C", nil, body(bound(fun("m", "U32 val"), "X: Any tag"), call("m", "C[$X] ref"))), "A")}, "C.m.X"},
	} {
		ends, l, e := Ends(x.p)
		if got := strings.Join(l, " "); e != api.OK || got != x.want || ends != (x.want == "") {
			t.Errorf("Ends %d: %v, %s, error %d, want %s", i, ends, got, e, x.want)
		}
	}
	inner := api.Type{Kind: api.TypeParam, Name: "A"}
	inner.Args = []api.Type{inner}
	cell.Fields = []api.Field{{Name: "f", Type: api.Type{Kind: api.TypeName, Name: "Cell", Args: []api.Type{inner}}}}
	if ends, l, e := Ends([]api.Entity{cell}); ends || !slices.Equal(l, []string{"Cell.A"}) || e != api.OK {
		t.Errorf("a parameter within itself: %v, %v, error %d", ends, l, e)
	}
	main := entity(api.Actor, "Main", nil, api.Method{Kind: api.New, Name: "create"})
	if _, e := Reify([]api.Entity{cell, main}, "Main"); e != ErrGrow {
		t.Errorf("Reify of a parameter within itself: error %d", e)
	}
	long := []api.Entity{}
	for i := range api.MaxUnits {
		e := entity(api.Class, fmt.Sprintf("C%d", i), nil)
		for k := range api.MaxList {
			e = over(e, fmt.Sprintf("P%d", k))
		}
		args := make([]string, api.MaxList)
		for k := range args {
			args[k] = fmt.Sprintf("$P%d", (k+1)%api.MaxList)
		}
		long = append(long, fields(e, fmt.Sprintf("C%d[%s] ref", (i+1)%api.MaxUnits, strings.Join(args, ", "))))
	}
	if ends, l, e := Ends(long); !ends || len(l) > 0 || e != api.OK {
		t.Errorf("a long circle: %v, %v, error %d", ends, l, e)
	}
	long[7].Fields[0].Type.Args[5] = typ("($P6, U32 val)")
	if ends, l, e := Ends(long); ends || !slices.Equal(l, []string{"C7.P6"}) || e != api.OK {
		t.Errorf("a long circle that grows: %v, %v, error %d", ends, l, e)
	}
}

// TestMoreEdges: promise 10.4.
func TestMoreEdges(t *testing.T) {
	for seed := range uint64(3000) {
		pick := sample.Source(seed)
		p := sample.ProgramMaker{Pick: pick, Generic: true}.Program()
		all, _ := Edges(p)
		cut := pick(len(p) + 1)
		for _, part := range [][]api.Entity{p[:cut], p[cut:]} {
			fewer, _ := Edges(part)
			for _, e := range fewer {
				if !slices.Contains(all, e) {
					t.Fatalf("seed %d: the edge %v is not there with more entities", seed, e)
				}
			}
		}
		ends, l, _ := Ends(p)
		if _, e := Reify(p, "main.Main"); ends && e == ErrGrow || !ends && e == api.OK {
			t.Fatalf("seed %d: Ends %v, Reify error %d", seed, ends, e)
		}
		for _, name := range l {
			if !slices.ContainsFunc(all, func(e Edge) bool { return e.From == name && e.Grows }) {
				t.Fatalf("seed %d: %s does not grow", seed, name)
			}
		}
		plain, _ := Edges(sample.ProgramMaker{Pick: pick}.Program())
		if len(plain) > 0 {
			t.Fatalf("seed %d: edges without parameters: %v", seed, plain)
		}
	}
}

// flat makes a type flat.
func flat(t api.Type) api.Type {
	if t.Kind == api.TypeName && len(t.Args) > 0 {
		t.Name, _ = Named(t.Name, t.Args)
		t.Args = nil
	}
	for i, a := range t.Args {
		t.Args[i] = flat(a)
	}
	return t
}

// mentioned calls f with each type of an entity, to change it.
func mentioned(e *api.Entity, f func(api.Type) api.Type) {
	var walk func(x *api.Expr)
	walk = func(x *api.Expr) {
		for i, t := range x.Types {
			x.Types[i] = f(t)
		}
		for i := range x.Kids {
			walk(&x.Kids[i])
		}
	}
	for i, t := range e.Provides {
		e.Provides[i] = f(t)
	}
	for i := range e.Fields {
		e.Fields[i].Type = f(e.Fields[i].Type)
	}
	for i := range e.Methods {
		m := &e.Methods[i]
		for k := range m.Params {
			m.Params[k].Type = f(m.Params[k].Type)
		}
		m.Result = f(m.Result)
		walk(&m.Body)
	}
}

// TestReified: promises 10.3 and 10.5, for programs by chance.
func TestReified(t *testing.T) {
	done, parts, codes := 0, 0, map[api.Errno]int{}
	for seed := range uint64(20000) {
		pick := sample.Source(seed)
		p := sample.ProgramMaker{Pick: pick, Generic: seed%4 > 0}.Program()
		got, e := Reify(p, "main.Main")
		codes[e]++
		if e != api.OK {
			if len(got) > 0 {
				t.Fatalf("seed %d: entities with the error %d", seed, e)
			}
			continue
		}
		done++
		whole, _ := Whole(p)
		known := map[string]bool{}
		for _, x := range got {
			if known[x.Name] || len(x.Bounds) > 0 {
				t.Fatalf("seed %d: %s is there twice, or has bounds", seed, x.Name)
			}
			known[x.Name] = true
		}
		for i := range got {
			mentioned(&got[i], func(x api.Type) api.Type {
				var check func(x api.Type)
				check = func(x api.Type) {
					if x.Kind == api.TypeParam || x.Kind == api.TypeName && (len(x.Args) > 0 || !known[x.Name]) {
						t.Fatalf("seed %d: %v is in what Reify returns", seed, x)
					}
					for _, a := range x.Args {
						check(a)
					}
				}
				check(x)
				return x
			})
			isInstance(t, whole, got[i])
		}
		again, e := Reify(got, "main.Main")
		if e != api.OK {
			continue
		}
		parts++
		k := 0
		for _, x := range got {
			if k < len(again) && names.Equal([]api.Entity{x}, again[k:k+1]) {
				k++
			}
		}
		if k < len(again) && isTame(p) && hasOneOpen(p) {
			t.Fatalf("seed %d: Reify of Reify is no part of it", seed)
		}
	}
	t.Log(codes)
	if done < 1000 || parts < 1000 {
		t.Errorf("only %d programs, %d twice", done, parts)
	}
}

// isInstance checks that an entity is an instance of one of a whole program, if that has no methods with type parameters.
func isInstance(t *testing.T, whole []api.Entity, x api.Entity) {
	t.Helper()
	name, _, _ := strings.Cut(x.Name, "[")
	i, _ := subtype.Find(whole, name)
	if slices.ContainsFunc(whole[i].Methods, func(m api.Method) bool { return len(m.Bounds) > 0 }) {
		return
	}
	var args []api.Type
	if len(name) < len(x.Name) {
		tuple, e := types.Parse("C" + x.Name[len(name):] + " val")
		if e != api.OK {
			t.Fatalf("the name %s: error %d", x.Name, e)
		}
		args = tuple.Args
	}
	want, e := Instance(whole, name, args)
	if e != api.OK {
		t.Fatalf("Instance of %s: error %d", x.Name, e)
	}
	for i := range want.Methods {
		renamed(&want.Methods[i].Body)
	}
	mentioned(&want, flat)
	if !names.Equal([]api.Entity{want}, []api.Entity{x}) {
		t.Fatalf("%s: %v, want %v", x.Name, x, want)
	}
}

// renamed gives the calls of a body the names of the variants that they call.
func renamed(x *api.Expr) {
	args := x.Types
	if x.Op == api.OpNew && len(args) > 0 {
		args = args[1:]
	}
	if (x.Op == api.OpCall || x.Op == api.OpNew) && len(args) > 0 {
		x.Text, _ = Named(x.Text, args)
		x.Types = x.Types[:len(x.Types)-len(args)]
	}
	for i := range x.Kids {
		renamed(&x.Kids[i])
	}
}

// TestAnything: promises 1 and 2, for entities and types of any form.
func TestAnything(t *testing.T) {
	codes := map[api.Errno]int{}
	for seed := range uint64(3000) {
		all := func() any {
			pick := sample.Source(seed)
			p := sample.ProgramMaker{Pick: pick, Generic: true}.Garbage()
			x := p[pick(len(p))]
			m := sample.TypeMaker{Pick: pick, Names: map[int][]string{0: {"Any", "main.C0"}}}
			args := []api.Type{m.Wrong(m.Type(1)), m.Type(1)}[pick(2):]
			before := fmt.Sprint(p)
			whole, a := Whole(p)
			edges, b := Edges(p)
			ends, grow, c := Ends(p)
			all, d := Reify(p, "main.Main")
			one, e := Instance(p, x.Name, args)
			name, f := Named(x.Name, args)
			found, from, g := Find(p, x.Name, "a")
			out := []any{whole, a, edges, b, ends, grow, c, all, d, one, e, name, f, found, from, g, Fulfils(p, x.Bounds, args)}
			for _, m := range x.Methods {
				v, e := Variant(m, args)
				out = append(out, v, e)
			}
			codes[d]++
			if before != fmt.Sprint(p) {
				t.Fatalf("seed %d: the program was changed", seed)
			}
			return out
		}
		if !reflect.DeepEqual(all(), all()) {
			t.Fatalf("seed %d: other results", seed)
		}
	}
	t.Log(codes)
}
