package types_test

import (
	"reflect"
	"slices"
	"strings"
	"testing"

	"hackamore/api"
	"hackamore/cap"
	"hackamore/internal/sample"
	. "hackamore/types"
)

// typ returns the type with a text.
func typ(t *testing.T, s string) api.Type {
	t.Helper()
	x, e := Parse(s)
	if e != api.OK {
		t.Fatalf("Parse(%s): error %d", s, e)
	}
	return x
}

func typs(t *testing.T, l ...string) []api.Type {
	t.Helper()
	var out []api.Type
	for _, s := range l {
		out = append(out, typ(t, s))
	}
	return out
}

func text(t *testing.T, x api.Type) string {
	t.Helper()
	s, e := Text(x)
	if e != api.OK {
		t.Fatalf("Text of %v: error %d", x, e)
	}
	return s
}

// told is the text of a type that a function returned, or its error.
func told(t *testing.T, x api.Type, e api.Errno) string {
	t.Helper()
	if e != api.OK {
		if !reflect.DeepEqual(x, api.Type{}) {
			t.Errorf("%v with the error %d", x, e)
		}
		return "error " + e.Error()
	}
	return text(t, x)
}

func named(name string, c, mark int, args ...api.Type) api.Type {
	return api.Type{Kind: api.TypeName, Name: name, Cap: c, Mark: mark, Args: args}
}

func param(name string, c, mark int) api.Type {
	return api.Type{Kind: api.TypeParam, Name: name, Cap: c, Mark: mark}
}

func self(c, mark int) api.Type { return api.Type{Kind: api.TypeSelf, Cap: c, Mark: mark} }

func of(kind int, args ...api.Type) api.Type { return api.Type{Kind: kind, Args: args} }

// maker makes types with parameters and receivers.
func maker(seed uint64) sample.TypeMaker {
	return sample.TypeMaker{
		Pick: sample.Source(seed), Names: map[int][]string{0: {"A", "main.B", "U32", "a b", "this"}, 1: {"main.Cell", "9"}, 2: {"Pair"}},
		Params: []string{"T", "U", "x y"}, Self: true,
	}
}

// deep returns a type of a depth.
func deep(depth int) api.Type {
	x := named("A", api.Val, 0)
	for range depth - 1 {
		x = named("A", api.Val, 0, x)
	}
	return x
}

// wide returns a type of a number of nodes.
func wide(nodes int) api.Type {
	x := of(api.TypeTuple)
	for left := nodes - 1; left > 0; {
		n := min(left, 60)
		x.Args = append(x.Args, named("A", api.Val, 0, slices.Repeat([]api.Type{named("A", api.Val, 0)}, n-1)...))
		left -= n
	}
	return x
}

func TestCheck(t *testing.T) {
	a := named("A", api.Val, 0)
	long := strings.Repeat("n", MaxText)
	many := slices.Repeat([]api.Type{a}, api.MaxList)
	for i, x := range []struct {
		t    api.Type
		want api.Errno
	}{
		{a, api.OK}, {named("A", api.Tag, 2, a, a), api.OK}, {named(long, api.Iso, 1), api.OK}, {named("\n\" é", api.Iso, 1), api.OK}, {named("A", api.Val, 0, many...), api.OK},
		{param("T", 0, 0), api.OK}, {param("T", api.Tag, 2), api.OK}, {param(strings.Repeat("n", api.MaxName), 0, 1), api.OK}, {self(0, 0), api.OK}, {self(api.Iso, 1), api.OK},
		{of(api.TypeUnion, a, a), api.OK}, {of(api.TypeBoth, a, a, a), api.OK}, {of(api.TypeTuple, many...), api.OK}, {of(api.TypeArrow, self(0, 0), a), api.OK}, {of(api.TypeArrow, param("T", 0, 2), a), api.OK},
		{deep(MaxDepth), api.OK}, {deep(MaxDepth + 1), api.ErrSize}, {wide(MaxNodes), api.OK}, {wide(MaxNodes + 1), api.ErrSize}, {named("", 0, 0, deep(MaxDepth)), api.ErrSize},
		{api.Type{}, api.ErrForm}, {of(-1), api.ErrForm}, {of(8), api.ErrForm}, {named("", api.Val, 0), api.ErrForm}, {named(long+"n", api.Val, 0), api.ErrForm}, {named("\xff", api.Val, 0), api.ErrForm},
		{named("A", 0, 0), api.ErrForm}, {named("A", api.CapRead, 0), api.ErrForm}, {named("A", api.CapAny, 0), api.ErrForm}, {named("A", api.Val, 3), api.ErrForm}, {named("A", api.Val, -1), api.ErrForm},
		{named("A", api.Val, 0, append(many, a)...), api.ErrForm}, {param("", 0, 0), api.ErrForm}, {param(strings.Repeat("n", api.MaxName+1), 0, 0), api.ErrForm}, {param("T", api.CapSend, 0), api.ErrForm},
		{api.Type{Kind: api.TypeParam, Name: "T", Args: []api.Type{a}}, api.ErrForm}, {api.Type{Kind: api.TypeSelf, Name: "T"}, api.ErrForm}, {self(7, 0), api.ErrForm}, {self(0, 3), api.ErrForm}, {api.Type{Kind: api.TypeSelf, Args: []api.Type{a}}, api.ErrForm},
		{of(api.TypeUnion, a), api.ErrForm}, {of(api.TypeBoth), api.ErrForm}, {of(api.TypeTuple, append(many, a)...), api.ErrForm}, {api.Type{Kind: api.TypeUnion, Name: "A", Args: []api.Type{a, a}}, api.ErrForm},
		{api.Type{Kind: api.TypeUnion, Cap: api.Val, Args: []api.Type{a, a}}, api.ErrForm}, {api.Type{Kind: api.TypeTuple, Mark: 1, Args: []api.Type{a, a}}, api.ErrForm},
		{of(api.TypeArrow, a, a), api.ErrForm}, {of(api.TypeArrow, self(0, 0)), api.ErrForm}, {of(api.TypeArrow, self(0, 0), a, a), api.ErrForm}, {api.Type{Kind: api.TypeArrow, Cap: 1, Args: []api.Type{self(0, 0), a}}, api.ErrForm},
		{of(api.TypeUnion, a, of(api.TypeTuple, a, named("A", 0, 0))), api.ErrForm},
	} {
		if e := Check(x.t); e != x.want {
			t.Errorf("type %d: error %d, want %d", i, e, x.want)
		}
		if x.want != api.OK {
			refusedByAll(t, x.t, x.want)
		}
	}
}

// refusedByAll hands a wrong type to all functions.
func refusedByAll(t *testing.T, x api.Type, want api.Errno) {
	t.Helper()
	fine := named("A", api.Val, 0)
	got := map[string]api.Errno{}
	add := func(name string, y api.Type, e api.Errno) {
		got[name] = e
		if !reflect.DeepEqual(y, api.Type{}) {
			t.Errorf("%s of %v: %v", name, x, y)
		}
	}
	for name, f := range map[string]func() (api.Type, api.Errno){
		"Normal":    func() (api.Type, api.Errno) { return Normal(x) },
		"Union":     func() (api.Type, api.Errno) { return Union([]api.Type{fine, x, deep(50)}) },
		"Subst":     func() (api.Type, api.Errno) { return Subst(x, []string{"T"}, []api.Type{fine}) },
		"Subst by":  func() (api.Type, api.Errno) { return Subst(fine, []string{"T", "U"}, []api.Type{fine, x}) },
		"Self":      func() (api.Type, api.Errno) { return Self(x, 99, 99) },
		"With":      func() (api.Type, api.Errno) { return With(x, 99) },
		"Aliased":   func() (api.Type, api.Errno) { return Aliased(x) },
		"Consumed":  func() (api.Type, api.Errno) { return Consumed(x) },
		"Seen":      func() (api.Type, api.Errno) { return Seen(99, x) },
		"Extracted": func() (api.Type, api.Errno) { return Extracted(99, x) },
		"Recovered": func() (api.Type, api.Errno) { return Recovered(x, 99) },
	} {
		y, e := f()
		add(name, y, e)
	}
	s, e := Text(x)
	got["Text"] = e
	if s != "" || Reified(x) || len(Params(x)) > 0 || Storable(api.Ref, x) || Sendable(x) {
		t.Errorf("%v: Text %q, Reified %v, Params %v, Storable %v, Sendable %v", x, s, Reified(x), Params(x), Storable(api.Ref, x), Sendable(x))
	}
	for name, e := range got {
		if e != want {
			t.Errorf("%s of %v: error %d, want %d", name, x, e, want)
		}
	}
}

func TestMaking(t *testing.T) {
	args := []api.Type{named("B", api.Ref, 0)}
	x := Named("A", api.Iso, args)
	if !Equal(x, named("A", api.Iso, 0, args...)) {
		t.Errorf("Named: %v", x)
	}
	args[0].Name = "C"
	if x.Args[0].Name != "B" {
		t.Error("Named shares the arguments")
	}
	if y := Named("", 77, nil); !Equal(y, named("", 77, 0)) {
		t.Errorf("Named of what is wrong: %v", y)
	}
	for i, x := range []struct {
		t            api.Type
		nodes, depth int
	}{{api.Type{}, 1, 1}, {deep(70), 70, 70}, {wide(500), 500, 3}, {of(99, of(0), of(0, of(-4))), 4, 3}} {
		if n, d := Size(x.t); n != x.nodes || d != x.depth {
			t.Errorf("Size %d: %d, %d", i, n, d)
		}
	}
}

func TestEqual(t *testing.T) {
	a := named("A", api.Ref, 1, named("B", api.Val, 0))
	for i, x := range []api.Type{
		{}, named("A", api.Ref, 1), named("A", api.Ref, 0, a.Args...), named("A", api.Box, 1, a.Args...), named("X", api.Ref, 1, a.Args...),
		named("A", api.Ref, 1, named("B", api.Tag, 0)), named("A", api.Ref, 1, a.Args[0], a.Args[0]), {Kind: api.TypeParam, Name: "A", Cap: api.Ref, Mark: 1, Args: a.Args},
	} {
		if Equal(a, x) || Equal(x, a) {
			t.Errorf("type %d is equal", i)
		}
	}
	if b := named("A", api.Ref, 1, named("B", api.Val, 0)); !Equal(a, b) || !Equal(api.Type{}, api.Type{Args: []api.Type{}}) {
		t.Error("equal types are not")
	}
}

func TestText(t *testing.T) {
	a, b := named("main.Cell", api.Ref, 0, named("U32", api.Val, 0)), named("B'", api.Iso, 1)
	for want, x := range map[string]api.Type{
		"main.Cell[U32 val] ref":                 a,
		"B' iso^":                                b,
		"_x9.y trn!":                             named("_x9.y", api.Trn, 2),
		"P[main.Cell[U32 val] ref, B' iso^] tag": named("P", api.Tag, 0, a, b),
		"$A":                                     param("A", 0, 0),
		"$A ref^":                                param("A", api.Ref, 1),
		"$A!":                                    param("A", 0, 2),
		`$"this"`:                                param("this", 0, 0),
		"this":                                   self(0, 0),
		"this box!":                              self(api.Box, 2),
		"this^":                                  self(0, 1),
		"(B' iso^ | $A | this)":                  of(api.TypeUnion, b, param("A", 0, 0), self(0, 0)),
		"(B' iso^ & $A)":                         of(api.TypeBoth, b, param("A", 0, 0)),
		"(B' iso^, ($A | $A))":                   of(api.TypeTuple, b, of(api.TypeUnion, param("A", 0, 0), param("A", 0, 0))),
		"(this -> B' iso^)":                      of(api.TypeArrow, self(0, 0), b),
		"($A! -> ($A -> B' iso^))":               of(api.TypeArrow, param("A", 0, 2), of(api.TypeArrow, param("A", 0, 0), b)),
		`"this" val`:                             named("this", api.Val, 0),
		`"9" val`:                                named("9", api.Val, 0),
		`".A" val`:                               named(".A", api.Val, 0),
		`"'" val`:                                named("'", api.Val, 0),
		`"a b" val`:                              named("a b", api.Val, 0),
		`"main.Cell[U32 val]" ref`:               named("main.Cell[U32 val]", api.Ref, 0),
		`"\"\\\n\\n` + "\t\u00e9\r" + `" val`:    named("\"\\\n\\n\t\u00e9\r", api.Val, 0),
		"thisx val":                              named("thisx", api.Val, 0),
		`"a/b.C"[$"x y"] iso`:                    named("a/b.C", api.Iso, 0, param("x y", 0, 0)),
	} {
		if got := text(t, x); got != want {
			t.Errorf("Text: %s, want %s", got, want)
		}
		if got := typ(t, want); !Equal(got, x) {
			t.Errorf("Parse of %s: %v", want, got)
		}
	}
}

func TestParseErrors(t *testing.T) {
	nested := func(n int) string {
		return strings.Repeat("(A val, ", n) + "A val" + strings.Repeat(")", n)
	}
	square := func(n int) string { return strings.Repeat("A[", n) + "A val" + strings.Repeat("] val", n) }
	names := func(n int) string { return "(A val" + strings.Repeat(" | A val", n-1) + ")" }
	for s, want := range map[string]api.Errno{
		"": api.ErrForm, " ": api.ErrForm, "A": api.ErrForm, "A ": api.ErrForm, " A val": api.ErrForm, "A val ": api.ErrForm, "A  val": api.ErrForm, "Aval": api.ErrForm, "A valx": api.ErrForm, "A val^!": api.ErrForm,
		"A val ^": api.ErrForm, "A #read": api.ErrForm, "A CapNone": api.ErrForm, "A[] val": api.ErrForm, "A[B val] ": api.ErrForm, "A[B val,C val] val": api.ErrForm, "A[B val, ] val": api.ErrForm, "A[B val val": api.ErrForm,
		"$": api.ErrForm, "$ val": api.ErrForm, "$9": api.ErrForm, "$this": api.ErrForm, "$A[B val]": api.ErrForm, "$$A": api.ErrForm, "this[B val]": api.ErrForm, "this val val": api.ErrForm,
		"(A val)": api.ErrForm, "()": api.ErrForm, "(A val | )": api.ErrForm, "(A val |B val)": api.ErrForm, "(A val | B val & C val)": api.ErrForm, "(A val, B val | C val)": api.ErrForm, "(A val | B val": api.ErrForm, "A val | B val": api.ErrForm,
		"(A val | B val)^": api.ErrForm, "(A val | B val) val": api.ErrForm, "(A val -> B val)": api.ErrForm, "(this -> B val -> C val)": api.ErrForm, "(this->B val)": api.ErrForm, "((this -> A val) -> B val)": api.ErrForm,
		`"A" val`: api.ErrForm, `"" val`: api.ErrForm, `"a b val`: api.ErrForm, `"a\q" val`: api.ErrForm, `"a b\" val`: api.ErrForm, "\"a\n\" val": api.ErrForm, "\"a\xff\" val": api.ErrForm, `"this"`: api.ErrForm, `a b val`: api.ErrForm, `"\n`: api.ErrForm, `"a\`: api.ErrForm,
		"\u00e9 val": api.ErrForm, `$"` + strings.Repeat("-", api.MaxName+1) + `"`: api.ErrForm, `$"` + strings.Repeat("-", api.MaxName) + `"`: api.OK,
		strings.Repeat("n", 301) + " val": api.ErrForm, strings.Repeat("n", 300) + " val": api.OK, strings.Repeat("n", 20001): api.ErrSize, strings.Repeat("n", 20000): api.ErrForm,
		nested(19): api.OK, nested(20): api.ErrSize, nested(199): api.ErrSize, nested(200): api.ErrForm, square(19): api.OK, square(20): api.ErrSize, square(199): api.ErrSize, square(200): api.ErrForm,
		names(64): api.OK, names(65): api.ErrForm, names(299): api.ErrForm, names(300): api.ErrSize, nested(20) + ")": api.ErrForm, `"` + strings.Repeat("(", 250) + `" val`: api.OK,
	} {
		x, e := Parse(s)
		if e != want || e != api.OK && !reflect.DeepEqual(x, api.Type{}) {
			t.Errorf("Parse(%.50s): %v, error %d, want %d", s, x.Kind, e, want)
		}
	}
}

// TestThereAndBack: promise 8.2.
func TestThereAndBack(t *testing.T) {
	known := map[string]api.Type{}
	for seed := range uint64(20000) {
		x := maker(seed).Type(3)
		if Check(x) != api.OK {
			t.Fatalf("%v: error %d", x, Check(x))
		}
		s := text(t, x)
		if y, e := Parse(s); e != api.OK || !Equal(x, y) {
			t.Fatalf("Parse of %s: %v, error %d", s, y, e)
		}
		if y, ok := known[s]; ok && !Equal(x, y) {
			t.Fatalf("%v and %v have the text %s", x, y, s)
		}
		known[s] = x
		m := maker(seed + 1<<32)
		cut := m.Pick(len(s) + 1)
		const noise = "([|&,->)]^! \"\\nA$this val"
		changed := s[:cut] + string(noise[m.Pick(len(noise))]) + s[min(len(s), cut+m.Pick(3)):]
		if y, e := Parse(changed); e == api.OK && text(t, y) != changed {
			t.Fatalf("Parse of %s: %s", changed, text(t, y))
		}
	}
}

func TestReified(t *testing.T) {
	for s, want := range map[string]bool{
		"A val": true, "$A val": false, "this": false, "this ref": true, "(this -> A val)": false, "(this box -> A val)": true, "C[$A] val": false, "C[(A val | this)] val": false, "C[(A val | this iso!)] val": true,
	} {
		if Reified(typ(t, s)) != want {
			t.Errorf("Reified of %s: %v", s, !want)
		}
	}
	if got, want := Params(typ(t, "($B -> C[$A ref, ($B!, $C)] val)")), []string{"B", "A", "C"}; !slices.Equal(got, want) {
		t.Errorf("Params: %v, want %v", got, want)
	}
	if l := Params(typ(t, "A val")); len(l) > 0 {
		t.Errorf("Params: %v", l)
	}
}

// parts returns the parts of a type.
func parts(x api.Type) []api.Type {
	switch x.Kind {
	case api.TypeArrow:
		return parts(x.Args[1])
	case api.TypeUnion, api.TypeBoth, api.TypeTuple:
		var l []api.Type
		for _, a := range x.Args {
			l = append(l, parts(a)...)
		}
		return l
	}
	return []api.Type{x}
}

func hasArrow(x api.Type) bool {
	return x.Kind == api.TypeArrow || x.Kind >= api.TypeUnion && x.Kind <= api.TypeTuple && slices.ContainsFunc(x.Args, hasArrow)
}

// TestCapabilities: promise 8.5, and what becomes of each part by the tables of layer 7.
func TestCapabilities(t *testing.T) {
	counts := func(x api.Type) int {
		switch {
		case x.Mark == api.Aliased && x.Cap == api.Iso:
			return api.Tag
		case x.Mark == api.Aliased && x.Cap == api.Trn:
			return api.Box
		}
		return x.Cap
	}
	for seed := range uint64(20000) {
		m := maker(seed)
		m.Plain = seed%2 == 0
		x := m.Type(3)
		l := parts(x)
		capped := !slices.ContainsFunc(l, func(p api.Type) bool { return p.Cap == api.CapNone }) && !hasArrow(x)
		c := api.Iso + m.Pick(6)
		sendable, storable := capped, capped
		for _, p := range l {
			sendable = sendable && cap.Sendable(counts(p))
			storable = storable && cap.Store(c, p.Cap, p.Mark)
		}
		if Sendable(x) != sendable || Storable(c, x) != storable {
			t.Fatalf("%s: Sendable %v, Storable through %s %v", text(t, x), Sendable(x), cap.Name(c), Storable(c, x))
		}
		if Storable(api.Iso, x) && !Sendable(x) {
			t.Fatalf("%s is Storable through iso", text(t, x))
		}
		y, e := With(x, c)
		if e != api.OK || slices.ContainsFunc(parts(y), func(p api.Type) bool { return p.Cap != c || p.Mark != api.Plain }) || hasArrow(y) {
			t.Fatalf("With of %s and %s: %s", text(t, x), cap.Name(c), told(t, y, e))
		}
		if y, e := Recovered(x, 0); e == api.OK && !Sendable(y) {
			t.Fatalf("Recovered of %s: %s", text(t, x), text(t, y))
		}
		if m.Plain && capped {
			y, _ := Consumed(x)
			if y, e := Aliased(y); e != api.OK || !Equal(x, y) {
				t.Fatalf("Aliased of Consumed of %s: %s", text(t, x), told(t, y, e))
			}
			if y, e := Seen(api.Ref, x); e != api.OK || !Equal(x, y) {
				t.Fatalf("%s through ref: %s", text(t, x), told(t, y, e))
			}
		}
		byParts(t, x, l, c, capped)
	}
}

// byParts compares what is done with a type with what is done with its parts, one by one.
func byParts(t *testing.T, x api.Type, l []api.Type, c int, capped bool) {
	t.Helper()
	for name, f := range map[string]func(api.Type) (api.Type, api.Errno){
		"Aliased": Aliased, "Consumed": Consumed,
		"Seen":      func(x api.Type) (api.Type, api.Errno) { return Seen(c, x) },
		"Extracted": func(x api.Type) (api.Type, api.Errno) { return Extracted(c, x) },
		"Recovered": func(x api.Type) (api.Type, api.Errno) { return Recovered(x, c) },
	} {
		y, e := f(x)
		if !capped && name != "Aliased" && name != "Consumed" {
			continue
		}
		var want []api.Type
		first := api.OK
		for _, p := range l {
			part, wrong := f(p)
			if wrong != api.OK && first == api.OK {
				first = wrong
			}
			want = append(want, part)
		}
		if e != first || e == api.OK && !slices.EqualFunc(parts(y), want, Equal) {
			t.Fatalf("%s of %s: %s", name, text(t, x), told(t, y, e))
		}
	}
}

// TestAnything: promises 1 and 2, for types of any form: what is wrong has the error of Check.
func TestAnything(t *testing.T) {
	for seed := range uint64(5000) {
		m := maker(seed)
		for _, x := range []api.Type{m.Any(3), m.Wrong(m.Type(3)), m.Wrong(m.Wrong(m.Type(2)))} {
			if e := Check(x); e != api.OK {
				refusedByAll(t, x, e)
				continue
			}
			if y, e := Parse(text(t, x)); e != api.OK || !Equal(x, y) {
				t.Fatalf("Parse of %s: error %d", text(t, x), e)
			}
		}
	}
}
