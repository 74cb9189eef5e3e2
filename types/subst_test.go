package types_test

import (
	"reflect"
	"slices"
	"testing"

	"hackamore/api"
	. "hackamore/types"
)

func TestNormal(t *testing.T) {
	for s, want := range map[string]string{
		"(None val | U32 val)":                "(None val | U32 val)",
		"(U32 val | (None val | U32 val))":    "(None val | U32 val)",
		"(A val | (A val | A val^))":          "A val",
		"(B val & (A val & (A val | B val)))": "((A val | B val) & A val & B val)",
		"((A val & B val) | (B val & A val))": "(A val & B val)",
		"(B ref, A ref!)":                     "(B ref, A ref)",
		"C[(B val | A val), X iso^] ref^":     "C[(A val | B val), X iso^] ref",
		"A iso!":                              "A iso!",
		"A trn^":                              "A trn^",
		"A tag!":                              "A tag",
		"$A!":                                 "$A!",
		"$A box^":                             "$A box",
		"this val!":                           "this val",
		"this^":                               "this^",
		"(this -> (B val | A val))":           "(this -> (A val | B val))",
		"($A ref! -> A val!)":                 "($A ref -> A val)",
		"(this box -> A ref)":                 "A box",
		"(this iso! -> A ref)":                "error 13",
		"(this tag -> A ref)":                 "error 13",
		"(this trn! -> A trn)":                "A box",
		"(this iso -> (A ref | A box))":       "A tag",
		"(X val | (this val -> (A ref | (B ref | X ref))))": "(A val | B val | X val)",
		"(this box -> $A)":                                  "error 2",
		"(this box -> this)":                                "error 2",
		"(this box -> (this -> A ref))":                     "error 2",
		"(this box -> (this ref -> A ref))":                 "A box",
		"(this -> (this val -> A ref))":                     "(this -> A val)",
		"((this box -> A tag), (this tag -> A ref))":        "error 13",
		"((this box -> $A), (this tag -> A ref))":           "error 2",
		"((this tag -> A ref), (this box -> $A))":           "error 13",
		"((A val | A val), (A val & A val))":                "(A val, A val)",
		"(C[(A val | B val)] val | C[(B val | A val)] val)": "C[(A val | B val)] val",
		`(this | A val | ("9" val & A val) | $A | "9" val)`: `("9" val | $A | ("9" val & A val) | A val | this)`,
	} {
		if got, e := Normal(typ(t, s)); told(t, got, e) != want {
			t.Errorf("Normal of %s: %s, want %s", s, told(t, got, e), want)
		}
	}
}

func TestUnion(t *testing.T) {
	for _, x := range []struct {
		l    []string
		want string
	}{
		{nil, "error 1"}, {[]string{"A ref!"}, "A ref"}, {[]string{"B val", "A val"}, "(A val | B val)"}, {[]string{"A val", "A val^"}, "A val"},
		{[]string{"B val", "(A val | B val)", "(X val, X val)"}, "((X val, X val) | A val | B val)"}, {[]string{"(this box -> $A)", "(this tag -> A val)"}, "error 2"},
		{slices.Repeat([]string{"A val"}, 100), "A val"},
	} {
		if got, e := Union(typs(t, x.l...)); told(t, got, e) != x.want {
			t.Errorf("Union of %v: %s, want %s", x.l, told(t, got, e), x.want)
		}
	}
	var l []api.Type
	for i := range api.MaxList + 1 {
		l = append(l, named("A"+string(rune('0'+i)), api.Val, 0))
	}
	if x, e := Union(l); e != api.ErrSize || x.Kind != 0 {
		t.Errorf("a union of too many: error %d", e)
	}
	if x, e := Union(l[1:]); e != api.OK || len(x.Args) != api.MaxList {
		t.Errorf("a union of %d: error %d", api.MaxList, e)
	}
	if _, e := Union([]api.Type{deep(MaxDepth), l[0]}); e != api.ErrSize {
		t.Errorf("a union that is too deep: error %d", e)
	}
	if _, e := Union([]api.Type{{}, deep(MaxDepth + 1)}); e != api.ErrForm {
		t.Errorf("the first wrong type: error %d", e)
	}
	outer := of(api.TypeUnion, of(api.TypeUnion, l[:40]...), of(api.TypeUnion, l[30:]...))
	if x, e := Normal(outer); e != api.ErrSize || x.Kind != 0 {
		t.Errorf("a union that becomes too long: error %d", e)
	}
}

// TestNormals: promise 8.3.
func TestNormals(t *testing.T) {
	for seed := range uint64(20000) {
		m := maker(seed)
		x := m.Type(3)
		n, e := Normal(x)
		if e != api.OK {
			continue
		}
		if again, e := Normal(n); e != api.OK || !Equal(n, again) || Check(n) != api.OK {
			t.Fatalf("Normal of %s: %s, and then %s", text(t, x), text(t, n), told(t, again, e))
		}
		l := []api.Type{x, m.Type(2), m.Type(2)}
		u, e := Union(l)
		slices.Reverse(l)
		for _, y := range []api.Type{of(api.TypeUnion, l...), of(api.TypeUnion, l[0], of(api.TypeUnion, l[1:]...)), of(api.TypeUnion, of(api.TypeUnion, l[2], l[0]), l[1])} {
			if v, wrong := Normal(y); e == api.OK && (wrong != api.OK || !Equal(u, v)) {
				t.Fatalf("Normal of %s: %s, want %s", text(t, y), told(t, v, wrong), text(t, u))
			}
		}
	}
}

func TestSubst(t *testing.T) {
	for _, x := range []struct {
		t, arg, want string
	}{
		{"$A ref^", "main.Cell iso", "main.Cell ref"}, {"$A!", "main.Cell iso", "main.Cell iso!"}, {"$A", "main.Cell iso^", "main.Cell iso^"}, {"$A!", "main.Cell iso^", "main.Cell iso!"}, {"$A!", "main.Cell trn^", "main.Cell trn!"},
		{"$A^", "main.Cell iso", "main.Cell iso^"}, {"$A^", "main.Cell iso!", "main.Cell iso!"}, {"$A^", "X val!", "X val"}, {"$A!", "X val^", "X val"}, {"$A iso^", "X iso!", "X iso^"}, {"$A iso!", "X tag", "X iso!"}, {"$A trn", "X iso!", "X trn"},
		{"$A!", "$B", "$B!"}, {"$A!", "$B^", "$B!"}, {"$A^", "$B", "$B^"}, {"$A^", "$B!", "$B!"}, {"$A^", "this", "this^"}, {"$A box", "$B!", "$B box"}, {"$A", "this!", "this!"},
		{"$A!", "(X iso^ | (Y trn, Z ref^))", "(X iso! | (Y trn!, Z ref))"}, {"$A val", "(X iso^ | (Y trn, C[Z iso] ref))", "(X val | (Y val, C[Z iso] val))"},
		{"$A val", "(this -> X iso)", "X val"}, {"$A^", "(this -> X iso)", "(this -> X iso^)"}, {"$A!", "($B -> $B)", "($B -> $B!)"},
		{"C[$A, $B] ref", "X iso", "C[X iso, $B] ref"}, {"C[$A^] iso^", "X iso", "C[X iso^] iso^"}, {"$B!", "X iso", "$B!"}, {"(this -> $A)", "X ref", "(this -> X ref)"},
		{"($A -> X ref)", "Y iso^", "(this iso^ -> X ref)"}, {"($A -> X ref)", "this box!", "(this box! -> X ref)"}, {"($A! -> $A)", "Y iso", "(this iso! -> Y iso)"}, {"($A val^ -> X ref)", "Y iso", "(this val -> X ref)"},
		{"($A -> X ref)", "$B", "($B -> X ref)"}, {"($A! -> X ref)", "$B", "($B! -> X ref)"}, {"($A ref -> X ref)", "$B val", "($B ref -> X ref)"}, {"($A -> X ref)", "this", "(this -> X ref)"},
		{"($A -> X ref)", "(X ref | Y ref)", "error 2"}, {"($A -> X ref)", "(this -> X ref)", "error 2"}, {"($A ref -> X ref)", "(this -> X iso)", "(this ref -> X ref)"}, {"(X val, ($A -> X ref))", "(X ref, Y ref)", "error 2"},
	} {
		if got, e := Subst(typ(t, x.t), []string{"A"}, typs(t, x.arg)); told(t, got, e) != x.want {
			t.Errorf("Subst of %s by %s: %s, want %s", x.t, x.arg, told(t, got, e), x.want)
		}
	}
	a, b := named("A", api.Val, 0), named("B", api.Val, 0)
	if got, e := Subst(param("X", 0, 0), []string{"X", "X"}, []api.Type{a, b}); told(t, got, e) != "A val" {
		t.Errorf("the first one counts: %s", told(t, got, e))
	}
	if got, e := Subst(of(api.TypeTuple, param("X", 0, 0), param("Y", 0, 0)), []string{"X", "Y"}, []api.Type{param("Y", 0, 0), param("X", 0, 0)}); told(t, got, e) != "($Y, $X)" {
		t.Errorf("both at once: %s", told(t, got, e))
	}
	for i, x := range []struct {
		t      api.Type
		params []string
		args   []api.Type
		want   api.Errno
	}{
		{deep(21), []string{"X"}, nil, api.ErrArg}, {deep(21), nil, []api.Type{a}, api.ErrArg}, {deep(21), nil, nil, api.ErrSize}, {api.Type{}, []string{"X"}, []api.Type{deep(21)}, api.ErrForm},
		{a, []string{"X", "Y"}, []api.Type{{}, deep(21)}, api.ErrForm}, {of(api.TypeArrow, param("X", 0, 0), a), []string{"X", "Y"}, []api.Type{of(api.TypeTuple, a, a), deep(21)}, api.ErrSize},
		{named("C", api.Val, 0, param("X", 0, 0)), []string{"X"}, []api.Type{deep(20)}, api.ErrSize}, {of(api.TypeTuple, param("X", 0, 0), param("X", 0, 0)), []string{"X"}, []api.Type{wide(200)}, api.ErrSize},
		{of(api.TypeTuple, param("X", 0, 0), param("X", 0, 0)), []string{"X"}, []api.Type{wide(149)}, api.OK}, {of(api.TypeTuple, deepParam(), of(api.TypeArrow, param("X", 0, 0), a)), []string{"X"}, []api.Type{of(api.TypeTuple, a, a)}, api.ErrForm},
	} {
		if got, e := Subst(x.t, x.params, x.args); e != x.want || e != api.OK && got.Kind != 0 {
			t.Errorf("Subst %d: error %d, want %d", i, e, x.want)
		}
	}
}

// deepParam has the parameter X so deep that nothing with a depth can stand there.
func deepParam() api.Type {
	x := param("X", 0, 0)
	for range MaxDepth - 2 {
		x = named("A", api.Val, 0, x)
	}
	return x
}

func TestSelf(t *testing.T) {
	for _, x := range []struct {
		t       string
		c, mark int
		want    string
	}{
		{"(this -> main.Cell ref)", api.Val, 0, "main.Cell val"}, {"this", api.Iso, 1, "this iso^"}, {"this!", api.Iso, 1, "this iso^"}, {"this box!", api.Iso, 1, "this box!"},
		{"(this -> A ref)", api.Iso, 2, "error 13"}, {"(this -> A ref)", api.Trn, 2, "A box"}, {"(this -> A ref)", api.Tag, 0, "error 13"}, {"(this ref -> A ref)", api.Tag, 0, "A ref"},
		{"(this -> (this box -> A ref))", api.Ref, 0, "A box"}, {"(this box -> (this -> A ref))", api.Tag, 0, "error 13"}, {"(this -> $A)", api.Ref, 0, "error 2"}, {"(this -> $A ref)", api.Box, 0, "$A box"},
		{"($A -> (this -> A ref))", api.Box, 0, "($A -> A box)"}, {"(this -> ($A -> A ref))", api.Box, 0, "error 2"}, {"(this -> ($A trn! -> A ref))", api.Ref, 0, "A box"},
		{"C[(this -> A ref), this] iso^", api.Val, 0, "C[A val, this val] iso^"}, {"(this -> this)", api.Val, 0, "this val"}, {"(this -> (A iso^ | B ref!))", api.Ref, 0, "(A iso | B ref)"},
		{"((this -> $A), (this -> A ref))", api.Tag, 0, "error 2"}, {"((this -> A ref), (this -> $A))", api.Tag, 0, "error 13"}, {"A iso!", api.Ref, 0, "A iso!"},
	} {
		if got, e := Self(typ(t, x.t), x.c, x.mark); told(t, got, e) != x.want {
			t.Errorf("Self of %s, %d, %d: %s, want %s", x.t, x.c, x.mark, told(t, got, e), x.want)
		}
	}
	a := named("A", api.Val, 0)
	for _, c := range []int{-1, 0, 7, 99} {
		if _, e := Self(a, c, 99); e != api.ErrCap {
			t.Errorf("Self with %d: error %d", c, e)
		}
	}
	for _, mark := range []int{-1, 3} {
		if x, e := Self(of(api.TypeArrow, self(0, 0), param("A", 0, 0)), api.Ref, mark); e != api.ErrArg || x.Kind != 0 {
			t.Errorf("Self with the mark %d: error %d", mark, e)
		}
	}
}

// TestReplacing: promise 8.4.
func TestReplacing(t *testing.T) {
	for seed := range uint64(20000) {
		m := maker(seed)
		x := m.Type(2)
		l := m.Params
		same := []api.Type{param("T", 0, 0), param("U", 0, 0), param("x y", 0, 0)}
		y, e := Subst(x, l, same)
		n, first := Normal(x)
		p, second := Normal(y)
		if e != api.OK || first != second || !Equal(n, p) {
			t.Fatalf("Subst of %s by its parameters: %s", text(t, x), told(t, y, e))
		}
		if y, e := Subst(x, []string{"V"}, []api.Type{m.Type(2)}); e != api.OK || !Equal(x, y) {
			t.Fatalf("Subst of %s by others: %s", text(t, x), told(t, y, e))
		}
		r := m
		r.Params, r.Self = nil, false
		y, e = Subst(x, l, []api.Type{r.Named(1), r.Named(1), r.Named(1)})
		if e != api.OK {
			continue
		}
		if z, e := Self(y, api.Iso+m.Pick(6), m.Pick(3)); e == api.OK && !Reified(z) {
			t.Fatalf("Subst and Self of %s: %s", text(t, x), text(t, z))
		}
	}
}

// TestTwice: promise 8.4, for parameters without capabilities and marks.
func TestTwice(t *testing.T) {
	var strip func(x api.Type) api.Type
	strip = func(x api.Type) api.Type {
		if x.Kind == api.TypeParam {
			x.Cap, x.Mark = 0, 0
		}
		x.Args = slices.Clone(x.Args)
		for i, a := range x.Args {
			x.Args[i] = strip(a)
		}
		return x
	}
	done := 0
	for seed := range uint64(20000) {
		m := maker(seed)
		x, first := strip(m.Type(2)), []api.Type{strip(m.Type(1)), strip(m.Type(1)), strip(m.Type(1))}
		second := []api.Type{m.Named(1), m.Named(1), m.Named(1)}
		once, e := Subst(x, m.Params, first)
		if e != api.OK {
			continue
		}
		twice, e := Subst(once, m.Params, second)
		var both []api.Type
		for _, a := range first {
			b, wrong := Subst(a, m.Params, second)
			if wrong != api.OK {
				e = wrong
			}
			both = append(both, b)
		}
		if e != api.OK {
			continue
		}
		if y, e := Subst(x, m.Params, both); e != api.OK || !Equal(twice, y) {
			t.Fatalf("Subst twice of %s: %s, at once %s", text(t, x), text(t, twice), told(t, y, e))
		}
		done++
	}
	if done < 10000 {
		t.Errorf("only %d were replaced twice", done)
	}
}

func TestMethod(t *testing.T) {
	x, y := param("A", 0, 0), param("B", 0, 0)
	m := api.Method{
		Kind: api.Fun, Name: "m", Cap: api.Box, Partial: true,
		Bounds: []api.Bound{{Name: "A", Type: named("X", 99, 0)}, {Name: "B", Type: named("T", api.Val, 0, x)}}, Params: []api.Param{{Name: "p", Type: x}, {Name: "q"}},
		Body: api.Expr{Op: api.OpSeq, Text: "t", Types: []api.Type{x, {}}, Kids: []api.Expr{{Op: api.OpCall, Types: []api.Type{y, x}}, {}}},
	}
	want := api.Method{
		Kind: api.Fun, Name: "m", Cap: api.Box, Partial: true,
		Bounds: []api.Bound{{Name: "B", Type: named("T", api.Val, 0, named("U", api.Iso, 0))}}, Params: []api.Param{{Name: "p", Type: named("U", api.Iso, 0)}, {Name: "q"}},
		Body: api.Expr{Op: api.OpSeq, Text: "t", Types: []api.Type{named("U", api.Iso, 0), {}}, Kids: []api.Expr{{Op: api.OpCall, Types: []api.Type{y, named("U", api.Iso, 0)}}, {}}},
	}
	if got, e := Method(m, []string{"A"}, []api.Type{named("U", api.Iso, 0)}); e != api.OK || !reflect.DeepEqual(got, want) {
		t.Errorf("Method: %v, error %d", got, e)
	}
	fine, long, none := named("U", api.Iso, 0), deep(21), named("", 0, 0)
	body := func(n, depth int) api.Expr {
		k := api.Expr{Op: api.OpSeq, Kids: slices.Repeat([]api.Expr{{}}, n-depth)}
		for range depth - 2 {
			k = api.Expr{Op: api.OpSeq, Kids: []api.Expr{k}}
		}
		return api.Expr{Op: api.OpSeq, Kids: []api.Expr{k}}
	}
	bound := []api.Bound{{Name: "C", Type: none}}
	for i, x := range []struct {
		m      api.Method
		params []string
		args   []api.Type
		want   api.Errno
	}{
		{api.Method{Body: body(api.MaxNodes+1, 3), Result: none}, []string{"A"}, nil, api.ErrArg}, {api.Method{Body: body(api.MaxNodes+1, 3), Result: none}, nil, nil, api.ErrSize},
		{api.Method{Body: body(api.MaxNodes, 3)}, nil, nil, api.OK}, {api.Method{Body: body(api.MaxTree+1, api.MaxTree), Result: fine}, nil, nil, api.ErrSize}, {api.Method{Body: body(api.MaxTree, api.MaxTree-1), Result: fine}, nil, nil, api.OK},
		{api.Method{Bounds: bound, Params: []api.Param{{Type: long}}, Result: fine}, nil, nil, api.ErrForm}, {api.Method{Bounds: bound, Params: []api.Param{{Type: long}}, Result: fine}, []string{"C"}, []api.Type{fine}, api.ErrSize},
		{api.Method{Params: []api.Param{{Type: fine}, {Type: long}}, Result: none}, nil, nil, api.ErrSize}, {api.Method{Result: none, Body: api.Expr{Types: []api.Type{long}}}, nil, nil, api.ErrForm},
		{api.Method{Body: api.Expr{Types: []api.Type{fine, long}, Kids: []api.Expr{{Types: []api.Type{none}}}}}, nil, nil, api.ErrSize}, {api.Method{Body: api.Expr{Kids: []api.Expr{{Types: []api.Type{none}}, {Types: []api.Type{long}}}}}, nil, nil, api.ErrForm},
		{api.Method{Result: long}, []string{"A"}, []api.Type{none}, api.ErrSize}, {api.Method{Result: fine, Body: api.Expr{Types: []api.Type{long}}}, []string{"A"}, []api.Type{none}, api.ErrForm}, {api.Method{}, []string{"A"}, []api.Type{none}, api.OK},
		{api.Method{}, []string{"A"}, []api.Type{fine}, api.OK}, {api.Method{Bounds: []api.Bound{{Name: "C", Type: named("Any", api.CapAny, 0)}}}, nil, nil, api.ErrForm},
		{api.Method{Result: of(api.TypeArrow, param("A", 0, 0), fine)}, []string{"A"}, []api.Type{of(api.TypeTuple, fine, fine)}, api.ErrForm},
		// what replaces nothing tells no error
		{api.Method{Params: []api.Param{{}}, Body: api.Expr{Op: api.OpSeq, Types: []api.Type{{}}}}, []string{"A"}, []api.Type{long}, api.OK}, {api.Method{Params: []api.Param{{Type: api.Type{Kind: -1}}}}, []string{"A"}, []api.Type{fine}, api.ErrForm},
		{api.Method{Bounds: bound}, []string{"B", "C"}, []api.Type{none, long}, api.OK}, {api.Method{Bounds: bound, Result: fine}, []string{"B", "C"}, []api.Type{long, none}, api.ErrSize}, {api.Method{Body: api.Expr{Kids: []api.Expr{{Types: []api.Type{{}, fine}}}}}, []string{"B"}, []api.Type{none}, api.ErrForm},
	} {
		got, e := Method(x.m, x.params, x.args)
		if e != x.want || e != api.OK && !reflect.DeepEqual(got, api.Method{}) || e == api.OK && !reflect.DeepEqual(got.Body, x.m.Body) {
			t.Errorf("Method %d: %v, error %d, want %d", i, got, e, x.want)
		}
	}
}

func TestCapabilityExamples(t *testing.T) {
	with := func(c int) func(api.Type) (api.Type, api.Errno) {
		return func(x api.Type) (api.Type, api.Errno) { return With(x, c) }
	}
	seen := func(c int) func(api.Type) (api.Type, api.Errno) {
		return func(x api.Type) (api.Type, api.Errno) { return Seen(c, x) }
	}
	extracted := func(c int) func(api.Type) (api.Type, api.Errno) {
		return func(x api.Type) (api.Type, api.Errno) { return Extracted(c, x) }
	}
	recovered := func(c int) func(api.Type) (api.Type, api.Errno) {
		return func(x api.Type) (api.Type, api.Errno) { return Recovered(x, c) }
	}
	for i, x := range []struct {
		f       func(api.Type) (api.Type, api.Errno)
		t, want string
	}{
		{with(api.Val), "(A iso^ | C[B ref] trn!)", "(A val | C[B ref] val)"}, {with(api.Iso), "(this -> ($A! -> (this^, A ref)))", "(this iso, A iso)"}, {with(0), "A val", "error 13"}, {with(api.CapRead), "A val", "error 13"},
		{Aliased, "(A iso^, B trn)", "(A iso, B trn!)"}, {Aliased, "($A | $B^)", "($A! | $B)"}, {Aliased, "(this -> A iso)", "(this -> A iso!)"}, {Aliased, "C[A iso] ref^", "C[A iso] ref"}, {Aliased, "$A val!", "$A val"},
		{Consumed, "(A iso, B trn!)", "(A iso^, B trn!)"}, {Consumed, "($A & $B!)", "($A^ & $B!)"}, {Consumed, "(this -> this)", "(this -> this^)"}, {Consumed, "this box!", "this box"},
		{seen(api.Box), "main.Cell ref", "main.Cell box"}, {seen(api.Box), "(A iso | B iso!)", "(A tag | B tag)"}, {seen(api.Ref), "(A iso^, B trn!)", "(A iso, B box)"}, {seen(api.Tag), "A ref", "error 13"}, {seen(0), "$A", "error 13"}, {seen(api.Ref), "$A", "error 2"},
		{seen(api.Ref), "(A tag, this)", "error 2"}, {seen(api.Tag), "($A, A ref)", "error 2"}, {seen(api.Tag), "(A ref, $A)", "error 13"}, {seen(api.Ref), "(this -> A ref)", "error 2"}, {seen(api.Ref), "(this val -> A ref)", "A val"}, {seen(api.Box), "($A ref -> A ref)", "A box"},
		{seen(api.Ref), "(this tag -> A ref)", "error 13"}, {seen(api.Ref), "(this iso! -> A ref)", "error 13"}, {seen(api.Trn), "C[$A] ref", "C[$A] box"},
		{extracted(api.Ref), "(A iso | B trn)", "(A iso^ | B trn^)"}, {extracted(api.Trn), "(A iso | B trn)", "(A iso^ | B box)"}, {extracted(api.Iso), "(A iso!, B trn!)", "(A tag, B tag)"}, {extracted(api.Ref), "A iso^", "A iso^"}, {extracted(api.Val), "A iso", "error 13"},
		{extracted(99), "$A", "error 13"}, {extracted(api.Val), "$A", "error 2"}, {extracted(api.Ref), "(this ref -> A iso)", "A iso^"}, {extracted(api.Ref), "(this box -> A iso)", "A tag"}, {extracted(api.Ref), "($A -> A iso)", "error 2"},
		{recovered(0), "(A iso | B trn | C ref | D val | E box | F tag)", "(A iso^ | B iso^ | C iso^ | D val | E val | F tag)"}, {recovered(0), "(A iso!, B trn!)", "(A tag, B val)"}, {recovered(api.Iso), "A ref", "A iso"}, {recovered(api.Trn), "A ref^", "A trn"},
		{recovered(api.Val), "(A ref | B box)", "(A val | B val)"}, {recovered(api.Iso), "(A ref | B box)", "error 13"}, {recovered(api.Tag), "A tag", "A tag"}, {recovered(api.Box), "A tag", "error 13"}, {recovered(7), "$A", "error 13"}, {recovered(-1), "A ref", "error 13"},
		{recovered(0), "$A", "error 2"}, {recovered(api.Iso), "(A box, $A)", "error 13"}, {recovered(api.Iso), "($A, A box)", "error 2"}, {recovered(0), "(this -> A ref)", "error 2"}, {recovered(0), "(this box -> A ref)", "A val"},
	} {
		if got, e := x.f(typ(t, x.t)); told(t, got, e) != x.want {
			t.Errorf("%d, of %s: %s, want %s", i, x.t, told(t, got, e), x.want)
		}
	}
	for s, want := range map[string][2]bool{
		"A iso": {true, true}, "A iso!": {true, true}, "A trn": {false, false}, "A trn!": {false, false}, "A ref": {false, false}, "(A val | B tag)": {true, true}, "(A val, B box)": {false, false},
		"$A": {false, false}, "$A val": {true, true}, "this": {false, false}, "this tag": {true, true}, "(this val -> A val)": {false, false}, "C[$A] val": {true, true},
	} {
		if x := typ(t, s); Sendable(x) != want[0] || Storable(api.Iso, x) != want[1] {
			t.Errorf("%s: Sendable %v, Storable %v", s, Sendable(x), Storable(api.Iso, x))
		}
	}
	for _, c := range []int{-1, 0, api.Val, api.Box, api.Tag, api.CapAny} {
		if Storable(c, typ(t, "A val")) {
			t.Errorf("Storable through %d", c)
		}
	}
	if !Storable(api.Ref, typ(t, "(A ref | B trn)")) || Storable(api.Trn, typ(t, "A ref")) {
		t.Error("Storable of ref")
	}
}
