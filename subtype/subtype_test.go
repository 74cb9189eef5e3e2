package subtype_test

import (
	"reflect"
	"slices"
	"strconv"
	"strings"
	"testing"

	"hackamore/api"
	"hackamore/internal/sample"
	. "hackamore/subtype"
	"hackamore/types"
)

// typ returns the type with a text.
func typ(s string) api.Type {
	t, e := types.Parse(s)
	if e != api.OK {
		panic("Parse of " + s + ": error " + e.Error())
	}
	return t
}

func typs(l ...string) []api.Type {
	var out []api.Type
	for _, s := range l {
		out = append(out, typ(s))
	}
	return out
}

func text(t api.Type) string {
	s, e := types.Text(t)
	if e != api.OK {
		return "error " + e.Error()
	}
	return s
}

func entity(kind int, name string, provides []api.Type, l ...api.Method) api.Entity {
	return api.Entity{Kind: kind, Name: name, Cap: api.Ref, Provides: provides, Methods: l}
}

// generic returns an entity with the parameters A, and B.
func generic(n int, e api.Entity) api.Entity {
	e.Bounds = []api.Bound{{Name: "A", Type: typ("Any tag")}, {Name: "B", Type: typ("Any tag")}}[:n]
	return e
}

// fun returns a function with a capability, types of parameters, and a result.
func fun(c int, name, result string, params ...string) api.Method {
	m := api.Method{Kind: api.Fun, Name: name, Cap: c}
	if result != "" {
		m.Result = typ(result)
	}
	for i, p := range params {
		m.Params = append(m.Params, api.Param{Name: "p" + strconv.Itoa(i), Type: typ(p)})
	}
	return m
}

// program has the entities of the chapter's example, and others.
func program() []api.Entity {
	return []api.Entity{
		entity(api.Interface, "Any", nil), entity(api.Primitive, "U32", nil), entity(api.Primitive, "None", nil),
		entity(api.Trait, "T", nil), entity(api.Interface, "I", nil, fun(api.Box, "m", "U32 val")), entity(api.Class, "C", typs("T val"), fun(api.Box, "m", "U32 val")),
		generic(1, entity(api.Trait, "List", typs("T ref"), fun(api.Box, "get", "$A"))), generic(1, entity(api.Class, "Cell", typs("List[$A] ref"))),
		generic(2, entity(api.Class, "Pair", typs("List[$B] ref", "List[$A] val", "$A"))), entity(api.Class, "Names", typs("List[U32 val] ref")),
		entity(api.Interface, "Self", nil, fun(api.Box, "same", "Self box")), entity(api.Class, "Me", nil, fun(api.Box, "same", "Me box")),
	}
}

func TestFind(t *testing.T) {
	p := program()
	for name, want := range map[string]int{"Any": 0, "C": 5, "Me": 11} {
		if i, e := Find(p, name); i != want || e != api.OK {
			t.Errorf("Find of %s: %d, error %d", name, i, e)
		}
	}
	for _, name := range []string{"", "c", "main.C"} {
		if i, e := Find(p, name); i != 0 || e != api.ErrNone {
			t.Errorf("Find of %q: %d, error %d", name, i, e)
		}
	}
	if i, e := Find(append(p, entity(api.Trait, "C", nil)), "C"); i != 5 || e != api.OK {
		t.Errorf("of two with one name: %d, error %d", i, e)
	}
}

func texts(l []api.Type) string {
	var out []string
	for _, t := range l {
		out = append(out, text(t))
	}
	return strings.Join(out, "; ")
}

func TestSupers(t *testing.T) {
	p := append(program(),
		generic(1, entity(api.Trait, "X", append(typs("List[$A!] ref", "Cell[$B] val", "Gone ref", "List ref", "(T ref | T ref)", "List[List[$A] ref] ref"), api.Type{Kind: 9}))),
		entity(api.Trait, "Up", typs("Down ref")), entity(api.Trait, "Down", typs("Up val", "T box")), generic(1, entity(api.Class, "More", typs("More[More[$A] ref] ref"))),
		generic(1, entity(api.Class, "At", typs("($A -> T ref)", "$A iso"))))
	for s, want := range map[string]string{
		"C iso^":                  "C iso^; T iso^",
		"Cell[U32 val] box":       "Cell[U32 val] box; List[U32 val] box; T box",
		"Pair[C ref, T box!] val": "Pair[C ref, T box!] val; List[T box!] val; List[C ref] val; C val; T val",
		"X[C iso^] ref":           "X[C iso^] ref; List[C iso!] ref; Cell[$B] ref; List[List[C iso^] ref] ref; T ref; List[$B] ref",
		"Up ref!":                 "Up ref!; Down ref!; T ref!",
		"At[(C val | T val)] tag": "At[(C val | T val)] tag",
		"At[U32 val] tag":         "At[U32 val] tag; U32 tag",
	} {
		l, e := Supers(p, typ(s))
		if got := texts(l); e != api.OK || got != want {
			t.Errorf("Supers of %s: %s, error %d, want %s", s, got, e, want)
		}
	}
	if l, _ := Supers(p, typ("More[C val] ref")); len(l) >= MaxSupers {
		t.Errorf("%d supertypes of a type that becomes too large", len(l))
	}
	var wide []api.Type
	for i := range 2 * MaxSupers {
		name := "W" + strconv.Itoa(i)
		wide = append(wide, api.Type{Kind: api.TypeName, Name: name, Cap: api.Ref})
		if len(p) < api.MaxUnits-1 {
			p = append(p, entity(api.Trait, name, nil))
		}
	}
	p = append(p, entity(api.Class, "All", wide))
	if l, e := Supers(p, typ("All val")); e != api.OK || len(l) != MaxSupers || text(l[MaxSupers-1]) != "W98 val" {
		t.Errorf("%d supertypes, error %d", len(l), e)
	}
}

// TestAsked has the errors of what asks for an entity's type.
func TestAsked(t *testing.T) {
	many := make([]api.Entity, api.MaxUnits+1)
	for i, x := range []struct {
		p    []api.Entity
		t    api.Type
		want api.Errno
	}{
		{many, api.Type{}, api.ErrForm}, {many, typ("(T ref | T ref)"), api.ErrSize}, {program(), typ("(T ref | T ref)"), api.ErrType}, {program(), typ("$A"), api.ErrType}, {program(), typ("this"), api.ErrType},
		{program(), typ("Gone ref"), api.ErrNone}, {program(), typ("Cell ref"), api.ErrSize}, {program(), typ("C[C ref] ref"), api.ErrSize}, {many[:api.MaxUnits], typ("C ref"), api.ErrNone},
	} {
		l, e := Supers(x.p, x.t)
		m, f := Methods(x.p, x.t)
		if e != x.want || f != x.want || len(l) > 0 || len(m) > 0 {
			t.Errorf("%d: %v, error %d, and %v, error %d, want %d", i, l, e, m, f, x.want)
		}
	}
	for i, x := range []struct {
		p    []api.Entity
		t    api.Type
		want api.Errno
	}{
		{many, api.Type{}, api.ErrForm}, {many, typ("$A"), api.ErrSize}, {program(), typ("$A"), api.ErrNone}, {program(), typ("this"), api.ErrNone}, {program(), typ("(C ref, C ref)"), api.ErrNone}, {program(), typ("(this -> C ref)"), api.ErrNone},
		{program(), typ("Gone ref"), api.ErrNone}, {program(), typ("C[C ref] ref"), api.ErrNone}, {program(), typ("T ref"), api.ErrNone}, {program(), typ("C ref"), api.OK},
	} {
		if m, e := Lookup(x.p, x.t, "m"); e != x.want || (e != api.OK) != reflect.DeepEqual(m, api.Method{}) {
			t.Errorf("Lookup %d: %v, error %d, want %d", i, m, e, x.want)
		}
	}
}

func TestMethods(t *testing.T) {
	body := api.Expr{Op: api.OpVar, Text: "x", Types: typs("$A")}
	get := fun(api.Ref, "get", "C ref")
	get.Body = body
	bad := fun(api.Box, "bad", "U32 val")
	bad.Body = api.Expr{Types: []api.Type{{Kind: 77}}}
	set := fun(api.Box, "set", "U32 val")
	set.Bounds = []api.Bound{{Name: "M", Type: api.Type{Kind: api.TypeName, Name: "Any", Cap: api.CapAny}}}
	shadow := fun(api.Box, "shadow", "$A")
	shadow.Bounds = []api.Bound{{Name: "A", Type: typ("Any tag")}}
	p := append(program(), generic(1, entity(api.Trait, "Base", nil, fun(api.Box, "one", "$A"), fun(api.Box, "one", "U32 val"), bad, fun(api.Box, "three", "this", "C[$A] ref"))),
		generic(1, entity(api.Class, "Own", typs("Base[$A!] ref", "List[$A] ref"), get, shadow, set)), entity(api.Trait, "Late", nil, fun(api.Box, "bad", "C ref")), entity(api.Class, "Both", typs("Base[C val] ref", "Late ref")))
	show := func(s string) string {
		l, e := Methods(p, typ(s))
		var out []string
		for _, m := range l {
			var params []api.Type
			for _, q := range m.Params {
				params = append(params, q.Type)
			}
			for _, x := range m.Body.Types {
				params = append(params, x)
			}
			out = append(out, m.Name+"("+texts(params)+"): "+text(m.Result))
		}
		if e != api.OK {
			return "error " + e.Error()
		}
		return strings.Join(out, ", ")
	}
	for s, want := range map[string]string{
		"Own[U32 iso^] val": "get(U32 iso^): C ref, shadow(): U32 iso^, one(): U32 iso!, three(C[U32 iso!] ref): this",
		"Both ref":          "one(): C val, three(C[C val] ref): this, bad(): C ref",
		"U32 val":           "", "Cell[$A] ref": "get(): $A",
	} {
		if got := show(s); got != want {
			t.Errorf("Methods of %s: %s, want %s", s, got, want)
		}
	}
}

func TestLookup(t *testing.T) {
	alike := fun(api.Box, "m", "U32 val")
	alike.Body = api.Expr{Op: api.OpThis}
	partial := alike
	partial.Partial = true
	named := fun(api.Box, "n", "U32 val", "C ref")
	other := fun(api.Box, "n", "U32 val", "C ref")
	other.Params[0].Name = "q"
	open := func(name, of string) api.Method {
		m := fun(api.Box, "open", "U32 val")
		m.Bounds = []api.Bound{{Name: name, Type: typ(of)}}
		return m
	}
	p := append(program(), entity(api.Class, "H", nil, open("X", "T box")), entity(api.Class, "K", nil, open("X", "T box")), entity(api.Class, "L", nil, open("Y", "T box")), entity(api.Class, "M", nil, open("X", "T ref")), entity(api.Class, "D", nil, alike, named), entity(api.Class, "E", nil, partial, named), entity(api.Class, "F", nil, fun(api.Ref, "m", "U32 val"), other), entity(api.Class, "G", nil, fun(api.Box, "m", "U32 box")))
	for s, want := range map[string]string{
		"C ref m": "m", "C ref n": "", "(C ref | D val) m": "m", "(D ref | C val | I box) m": "m", "(C ref | E ref) m": "", "(C ref | F ref) m": "", "(C ref | G ref) m": "", "(D ref | E ref) n": "n", "(D ref | F ref) n": "",
		"(H ref | K ref) open": "open", "(H ref | L ref) open": "", "(H ref | M ref) open": "",
		"(T ref & C ref) m": "m", "(T ref & U32 val) m": "", "(G ref & C ref) m": "m", "((T ref & C ref) | (D ref & U32 val)) m": "m", "(C ref | T ref) m": "", "(T ref & (C ref | D ref)) m": "m", "Cell[C ref] val get": "get", "((C ref, C ref) | C ref) m": "",
	} {
		at := strings.LastIndex(s, " ")
		m, e := Lookup(p, typ(s[:at]), s[at+1:])
		if m.Name != want || (want == "") != (e == api.ErrNone) || want != "" && e != api.OK {
			t.Errorf("Lookup of %s: %s, error %d, want %s", s, m.Name, e, want)
		}
	}
	if m, _ := Lookup(p, typ("(G ref & C ref)"), "m"); text(m.Result) != "U32 box" {
		t.Errorf("of an intersection the first one counts: %v", m)
	}
	if m, _ := Lookup(p, typ("(C ref | D ref)"), "m"); m.Body.Op != 0 {
		t.Errorf("of a union the first one counts: %v", m)
	}
}

// asks are questions with their answers: `yes`, `bare` (yes without capabilities), and `no`.
func TestIs(t *testing.T) {
	p := program()
	for s, want := range map[string]string{
		"C ref < T box": "yes", "C ref < I box": "yes", "C ref < (I val | I box)": "yes", "C ref < I val": "bare", "C ref < C ref": "yes", "T ref < C ref": "no", "C val < C ref": "bare", "C iso^ < C val": "yes", "C iso < C val": "bare", "C iso! < C tag": "yes",
		"C ref < Any tag": "yes", "Gone ref < Any ref": "yes", "Gone ref < Gone box": "yes", "Gone[C ref] ref < Gone[C ref] ref": "yes", "Gone[C ref] ref < Gone[C box] ref": "no", "Gone ref < I box": "no", "Gone ref < T box": "no", "Any ref < Gone ref": "no",
		"Cell[C ref] ref < List[C ref] ref": "yes", "Cell[C ref] ref < List[C box] ref": "no", "Cell[C ref] ref < List[T ref] ref": "no", "Cell[C ref] ref < T box": "yes", "Cell[C ref] ref < Cell[C ref^] ref": "yes", "Cell[C iso] ref < Cell[C iso!] ref": "no",
		"Pair[C ref, U32 val] ref < List[C ref] ref": "yes", "Pair[C ref, U32 val] ref < List[U32 val] ref": "yes", "Pair[C ref, U32 val] ref < List[T ref] ref": "no", "Pair[C ref, U32 val] ref < C ref": "yes", "Names val < List[U32 val] val": "yes",
		"(C ref | T ref) < T ref": "yes", "(C ref | U32 val) < T ref": "no", "T ref < (U32 val | T ref)": "yes", "(C ref | U32 val) < (U32 val | T box)": "yes", "(C ref | U32 val) < (U32 val | T val)": "bare",
		"C ref < (T ref & I box)": "yes", "C ref < (T ref & U32 val)": "no", "(T ref & I ref) < I box": "yes", "(T ref & I ref) < (I box & T box)": "yes", "(T ref & U32 val) < (C ref | U32 box)": "yes", "((C ref | T ref) & U32 val) < (T ref | Gone ref)": "yes",
		"((C ref | U32 val) & Any tag) < (C ref | U32 val)": "yes", "(C ref, U32 val) < (T ref, Any tag)": "yes", "(C ref, U32 val) < (T val, Any tag)": "bare", "(C ref, C ref) < (C ref, C ref, C ref)": "no", "(C ref, C ref) < Any tag": "no", "C ref < (C ref, C ref)": "no",
		"((C ref | U32 val), C ref) < ((C ref, C ref) | (U32 val, C ref))": "no", "(C ref, C ref) < ((U32 val, C ref) | (T ref, T ref))": "yes",
		"$A < $A": "yes", "$A < $B": "no", "$A^ < $A": "bare", "$A! < $A!": "yes", "$A ref < $A box": "no", "$A ref < $A ref!": "yes", "$A iso^ < $A iso": "yes", "$A iso < $A iso^": "bare", "$A < Any tag": "no", "C ref < $A": "no",
		"this < this": "yes", "this^ < this": "bare", "this iso^ < this ref": "yes", "this box < this ref": "bare", "this < this ref": "bare", "this ref < this": "bare", "this ref < C ref": "no",
		"(this -> C ref) < (this -> C ref)": "yes", "(this -> C ref) < (this -> C box)": "no", "($A -> C ref) < ($A -> C ref)": "yes", "(this -> C ref) < C box": "no",
		"Me box < Self box": "yes", "Me box < Self val": "bare", "Self ref < Me box": "no",
	} {
		l := strings.Split(s, " < ")
		a, b := typ(l[0]), typ(l[1])
		if got := Is(p, a, b); got != (want == "yes") {
			t.Errorf("Is %s: %v", s, got)
		}
		if got := Bare(p, a, b); got != (want != "no") {
			t.Errorf("Bare %s: %v", s, got)
		}
		if got := Same(p, a, b); got != (Is(p, a, b) && Is(p, b, a)) {
			t.Errorf("Same %s: %v", s, got)
		}
	}
	many := make([]api.Entity, api.MaxUnits+1)
	a := typ("C ref")
	if Is(many, a, a) || Bare(many, a, a) || Same(many, a, a) || Is(p, api.Type{}, a) || Is(p, a, api.Type{}) || Bare(p, api.Type{}, api.Type{}) || !Is(many[:api.MaxUnits], a, a) {
		t.Error("questions of what is wrong")
	}
	if !Same(p, typ("C val"), typ("(C val | C val)")) || Same(p, typ("C ref"), typ("T ref")) {
		t.Error("Same")
	}
}

// TestMethodsFit has methods of classes, and of interfaces, that fit or do not.
func TestMethodsFit(t *testing.T) {
	be := func(name string, params ...string) api.Method {
		m := fun(api.Tag, name, "", params...)
		m.Kind = api.Be
		return m
	}
	create := func(c int, result string) api.Method {
		m := fun(c, "m", result)
		m.Kind = api.New
		return m
	}
	partial := func(m api.Method) api.Method {
		m.Partial = true
		return m
	}
	bound := func(m api.Method, bounds ...string) api.Method {
		for i, s := range bounds {
			name, of, _ := strings.Cut(s, ":")
			m.Bounds = append(m.Bounds, api.Bound{Name: name})
			if of != "" {
				m.Bounds[i].Type = typ(of)
			}
		}
		return m
	}
	p := program()
	for i, x := range []struct {
		m, n api.Method
		want bool
	}{
		{fun(api.Box, "m", "C ref"), fun(api.Box, "m", "C ref"), true}, {fun(api.Box, "m", "C ref"), fun(api.Box, "n", "C ref"), false}, {fun(api.Box, "m", "C ref"), fun(api.Box, "m", "T box"), true}, {fun(api.Box, "m", "T ref"), fun(api.Box, "m", "C ref"), false},
		{fun(api.Box, "m", "C ref", "T box"), fun(api.Box, "m", "C ref", "C ref"), true}, {fun(api.Box, "m", "C ref", "C ref"), fun(api.Box, "m", "C ref", "T ref"), false}, {fun(api.Box, "m", "C ref", "C ref"), fun(api.Box, "m", "C ref"), false},
		{fun(api.Box, "m", "C ref"), fun(api.Ref, "m", "C ref"), true}, {fun(api.Ref, "m", "C ref"), fun(api.Box, "m", "C ref"), false}, {fun(api.Iso, "m", "C ref"), fun(api.Iso, "m", "C ref"), true}, {fun(api.Ref, "m", "C ref"), fun(api.Iso, "m", "C ref"), false}, {fun(99, "m", "C ref"), fun(99, "m", "C ref"), false},
		{partial(fun(api.Box, "m", "C ref")), fun(api.Box, "m", "C ref"), false}, {fun(api.Box, "m", "C ref"), partial(fun(api.Box, "m", "C ref")), true}, {partial(fun(api.Box, "m", "C ref")), partial(fun(api.Box, "m", "C ref")), true},
		{be("m", "T tag"), be("m", "C tag"), true}, {be("m"), fun(api.Tag, "m", ""), false}, {fun(api.Box, "m", ""), fun(api.Box, "m", ""), true}, {fun(api.Box, "m", ""), fun(api.Box, "m", "None val"), false}, {fun(api.Box, "m", "None val"), fun(api.Box, "m", ""), false},
		{create(api.Ref, "C ref^"), create(api.Ref, "C ref"), true}, {create(api.Iso, "C ref"), create(api.Val, "C ref"), true}, {create(api.Val, "C ref"), create(api.Ref, "C ref"), false}, {create(api.Ref, "C ref"), create(api.Iso, "C ref"), false}, {create(api.Ref, "(this -> C ref)"), create(api.Ref, "(this -> C ref)"), false},
		{fun(api.Box, "m", "(this -> C ref)"), fun(api.Box, "m", "C box"), true}, {fun(api.Ref, "m", "(this -> C ref)"), fun(api.Ref, "m", "(this -> C ref)"), true}, {fun(api.Box, "m", "(this -> C ref)"), fun(api.Ref, "m", "(this -> C ref)"), false}, {fun(api.Box, "m", "C ref", "(this -> C ref)"), fun(api.Val, "m", "C ref", "(this -> C ref)"), true},
		{fun(api.Box, "m", "this"), fun(api.Ref, "m", "this"), false}, {fun(api.Box, "m", "this"), fun(api.Box, "m", "this"), true}, {fun(api.Tag, "m", "(this -> C ref)"), fun(api.Tag, "m", "(this -> C ref)"), false}, {be("m", "this"), be("m", "this tag"), true}, {be("m", "(this -> C ref)"), be("m", "C ref"), false},
		{fun(api.Box, "m", "(this -> $A)"), fun(api.Box, "m", "(this -> $A)"), false}, {fun(api.Box, "m", "$A"), fun(api.Box, "m", "$A"), true}, {fun(api.Box, "m", "$A"), fun(api.Box, "m", "$B"), false},
		{bound(fun(api.Box, "m", "$X", "$X"), "X:T box"), bound(fun(api.Box, "m", "$Y", "$Y"), "Y:T box"), true}, {bound(fun(api.Box, "m", "$X"), "X:T box"), bound(fun(api.Box, "m", "$Y"), "Y:T ref"), false}, {bound(fun(api.Box, "m", "$X"), "X:T box"), fun(api.Box, "m", "$X"), false},
		{bound(fun(api.Box, "m", "$X"), "X:T box", "Y:List[$X] ref"), bound(fun(api.Box, "m", "$P"), "P:T box", "Q:List[$P] ref"), true}, {bound(fun(api.Box, "m", "$X"), "X:T box", "Y:List[$X] ref"), bound(fun(api.Box, "m", "$P"), "P:T box", "Q:List[$Q] ref"), false},
		{bound(fun(api.Box, "m", "C ref"), "X"), bound(fun(api.Box, "m", "C ref"), "X"), false}, {bound(fun(api.Box, "m", "$X ref^"), "X:T box"), bound(fun(api.Box, "m", "$Y ref"), "Y:T box"), true}, {bound(fun(api.Box, "m", "$X!"), "X:T box"), bound(fun(api.Box, "m", "$Y!"), "Y:T box"), true},
		{bound(fun(api.Box, "m", "C ref"), strings.Repeat("x", 70)+":T box"), bound(fun(api.Box, "m", "C ref"), "X:T box"), false}, {bound(fun(api.Box, "m", "C ref"), strings.Repeat("x", 70)+":T box"), bound(fun(api.Box, "m", "$X"), "X:T box"), false},
		{api.Method{Kind: api.Fun, Cap: api.Box, Params: []api.Param{{}}}, api.Method{Kind: api.Fun, Cap: api.Box, Params: []api.Param{{}}}, false}, {api.Method{Kind: api.Fun, Cap: api.Box, Result: api.Type{Name: "x"}}, api.Method{Kind: api.Fun, Cap: api.Box, Result: api.Type{Name: "x"}}, false}, {api.Method{Kind: api.Be}, api.Method{Kind: api.Be}, true},
	} {
		if got := Method(p, x.m, x.n); got != x.want {
			t.Errorf("methods %d: %v", i, got)
		}
		if Method(make([]api.Entity, api.MaxUnits+1), x.m, x.n) {
			t.Errorf("methods %d of a program that is too large", i)
		}
		// A class with the one method is an interface with the other one, just if they fit.
		q := append(slices.Clone(p), entity(api.Class, "Has", nil, x.m), entity(api.Interface, "Wants", nil, x.n))
		l, _ := Methods(q, typ("Has iso"))
		k, _ := Methods(q, typ("Wants iso"))
		if got := Is(q, typ("Has iso"), typ("Wants iso")); len(l) == 1 && len(k) == 1 && got != x.want {
			t.Errorf("a class with the methods %d: %v", i, got)
		}
	}
}

// maker makes types of the names of a program.
func maker(pick func(int) int, p []api.Entity, params ...string) sample.TypeMaker {
	names := map[int][]string{}
	for _, e := range p {
		names[len(e.Bounds)] = append(names[len(e.Bounds)], e.Name)
	}
	names[0] = append(names[0], "Gone")
	return sample.TypeMaker{Pick: pick, Names: names, Params: params, Self: len(params) > 0}
}

// TestLaws: promises 9.2 to 9.5, for programs and types by chance.
func TestLaws(t *testing.T) {
	yes := 0
	for seed := range uint64(3000) {
		pick := sample.Source(seed)
		p := sample.ProgramMaker{Pick: pick, Generic: seed%2 == 0}.Program()
		m := maker(pick, p, "A", "B")
		for range 10 {
			a, b, c := m.Type(2), m.Type(2), m.Type(1)
			is := Is(p, a, b)
			if _, e := Derive(p, a, a); e != api.OK && e != api.ErrSteps {
				t.Fatalf("%s is not itself", text(a))
			}
			if is && !Bare(p, a, b) {
				t.Fatalf("%s is %s, but not without capabilities", text(a), text(b))
			}
			derived(t, p, a, b, is, pick)
			if is {
				yes++
			}
			sets(t, p, a, b, c)
		}
	}
	if yes < 1000 {
		t.Errorf("only %d answers are yes", yes)
	}
}

// derived checks the derivation of an answer, and changed ones.
func derived(t *testing.T, p []api.Entity, a, b api.Type, is bool, pick func(int) int) {
	t.Helper()
	d, e := Derive(p, a, b)
	if (e == api.OK) != is || e != api.OK && !reflect.DeepEqual(d, Proof{}) {
		t.Fatalf("Derive of %s and %s: error %d", text(a), text(b), e)
	}
	if !is {
		return
	}
	if e := Check(p, d); e != api.OK || !types.Equal(d.A, a) || !types.Equal(d.B, b) {
		t.Fatalf("Check of the derivation of %s and %s: error %d", text(a), text(b), e)
	}
	x := changed(d, pick)
	if Check(p, x) == api.OK && !Is(p, x.A, x.B) {
		t.Fatalf("Check takes %v", x)
	}
}

// changed returns a proof with something changed somewhere.
func changed(d Proof, pick func(int) int) Proof {
	if len(d.Kids) > 0 && pick(3) > 0 {
		d.Kids = slices.Clone(d.Kids)
		i := pick(len(d.Kids))
		d.Kids[i] = changed(d.Kids[i], pick)
		return d
	}
	switch pick(5) {
	case 0:
		d.Rule = pick(10)
	case 1:
		d.N += pick(3) - 1
	case 2:
		d.A.Cap = pick(7)
	case 3:
		d.A, d.B = d.B, d.A
	case 4:
		d.Kids = append(slices.Clone(d.Kids), d)
	}
	return d
}

// sets checks what unions and intersections of types are.
func sets(t *testing.T, p []api.Entity, a, b, c api.Type) {
	t.Helper()
	isCut := func(a, b api.Type) bool {
		_, e := Derive(p, a, b)
		return e == api.ErrSteps
	}
	union, both := api.Type{Kind: api.TypeUnion, Args: []api.Type{a, b}}, api.Type{Kind: api.TypeBoth, Args: []api.Type{a, b}}
	for _, x := range []api.Type{a, b} {
		if isCut(x, union) || isCut(both, x) || isCut(c, both) || isCut(union, c) || isCut(c, x) || isCut(x, c) {
			return
		}
		if !Is(p, x, union) || !Is(p, both, x) {
			t.Fatalf("%s in the union or the intersection of %s and %s", text(x), text(a), text(b))
		}
	}
	if got, want := Is(p, c, both), Is(p, c, a) && Is(p, c, b); got != want && c.Kind != api.TypeUnion {
		t.Fatalf("%s is %s: %v", text(c), text(both), got)
	}
	if got, want := Is(p, union, c), Is(p, a, c) && Is(p, b, c); got != want {
		t.Fatalf("%s is %s: %v", text(union), text(c), got)
	}
}

// TestTransitive: promise 9.2, for types without interfaces.
func TestTransitive(t *testing.T) {
	chains := 0
	for seed := range uint64(4000) {
		pick := sample.Source(seed)
		p := sample.ProgramMaker{Pick: pick, Generic: seed%2 == 0}.Program()
		for i := range p {
			if p[i].Kind == api.Interface {
				p[i].Kind = api.Trait
			}
		}
		m := maker(pick, p)
		m.Plain = seed%3 == 0
		for range 30 {
			a, b, c := m.Type(1), m.Type(1), m.Type(1)
			if slices.ContainsFunc([]api.Type{a, b, c}, func(x api.Type) bool { return strings.Contains(text(x), "&") }) {
				continue
			}
			if Is(p, a, b) && Is(p, b, c) {
				chains++
				if !Is(p, a, c) {
					t.Fatalf("%s, %s, %s", text(a), text(b), text(c))
				}
			}
		}
	}
	if chains < 200 {
		t.Errorf("only %d chains", chains)
	}
}

// TestInterfaces: promise 9.6.
func TestInterfaces(t *testing.T) {
	yes := 0
	for seed := range uint64(4000) {
		pick := sample.Source(seed)
		p := sample.ProgramMaker{Pick: pick}.Program()
		for _, i := range p {
			for _, e := range p {
				a, b := api.Type{Kind: api.TypeName, Name: e.Name, Cap: api.Iso, Mark: api.Ephemeral}, api.Type{Kind: api.TypeName, Name: i.Name, Cap: api.Ref}
				supers, _ := Supers(p, a)
				if i.Kind != api.Interface || slices.ContainsFunc(supers, func(s api.Type) bool { return s.Name == i.Name }) {
					continue
				}
				l, _ := Methods(p, b)
				all := true
				for _, n := range l {
					m, wrong := Lookup(p, a, n.Name)
					all = all && wrong == api.OK && Method(p, m, n)
				}
				// A method that asks for the very question may fit only as it is assumed there.
				is := Is(p, a, b)
				if all && !is {
					t.Fatalf("%s is %s: %v, but all methods fit", e.Name, i.Name, is)
				}
				if is {
					yes++
					more := slices.Clone(p)
					k, _ := Find(more, i.Name)
					more[k].Methods = append(slices.Clone(more[k].Methods), fun(api.Box, "more", "U32 val"))
					if Is(more, a, b) {
						t.Fatalf("%s is %s, which has a method more", e.Name, i.Name)
					}
				}
			}
		}
	}
	if yes < 1000 {
		t.Errorf("only %d answers are yes", yes)
	}
}

// TestAnything: promises 1 and 2, for entities, types and methods of any form.
func TestAnything(t *testing.T) {
	for seed := range uint64(3000) {
		all := func() any {
			pick := sample.Source(seed)
			p := sample.ProgramMaker{Pick: pick, Generic: true}.Garbage()
			m := maker(pick, p, "A", "")
			a, b := m.Wrong(m.Type(2)), m.Type(2)
			first, second := p[pick(len(p))].Methods, p[pick(len(p))].Methods
			out := []any{Is(p, a, b), Bare(p, b, a), Same(p, b, b)}
			for _, x := range first {
				for _, y := range second {
					out = append(out, Method(p, x, y))
				}
			}
			l, e := Supers(p, b)
			k, f := Methods(p, b)
			n, g := Lookup(p, b, "a")
			d, h := Derive(p, b, b)
			i := Check(p, changed(d, pick))
			return append(out, l, e, k, f, n, g, d, h, i)
		}
		if !reflect.DeepEqual(all(), all()) {
			t.Fatalf("seed %d: other results", seed)
		}
	}
}
