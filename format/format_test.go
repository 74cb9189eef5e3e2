package format

import (
	"reflect"
	"strings"
	"testing"

	"hackamore/api"
	"hackamore/internal/sample"
	"hackamore/parser"
	"hackamore/syntax"
	"hackamore/token"
)

func node(kind int, text string, kids ...api.Node) api.Node {
	return api.Node{Kind: kind, Text: text, Kids: kids}
}

// checkExprs checks the canonical texts of expressions; those that are empty are the texts themselves.
func checkExprs(t *testing.T, want map[string]string) {
	t.Helper()
	for s, w := range want {
		if w == "" {
			w = s
		}
		n, at, e := parser.Expr(s)
		if e != api.OK {
			t.Errorf("%q: error %d at %d", s, e, at)
			continue
		}
		if got, e := Text(n); e != api.OK || got != w {
			t.Errorf("%q:\n%s\nerror %d, want\n%s", s, got, e, w)
		}
		if m, _, e := parser.Expr(w); e != api.OK || !syntax.Equal(n, m) {
			t.Errorf("%q: another tree, error %d", w, e)
		}
	}
}

func TestOneLine(t *testing.T) {
	checkExprs(t, map[string]string{
		"(a+b)*c": "(a + b) * c", "a+b+c": "a + b + c", "a+(b+c)": "a + (b + c)", "(a-b)+c": "(a - b) + c", "a*(b as C)": "a * (b as C)", "(a as B) as C": "", "(a + b) as C": "", "a as C": "",
		"not(a and b)": "not (a and b)", "- - a": "--a", "-(a - b)": "", "- 1": "-1", "not - consume a": "not -consume a", "(-a).f": "", "-a.f": "", "(not a)()": "", "(consume a)[B]": "", "consume (a + b)": "",
		"(a; b) + c": "", "f((a; b), return_)": "", "f((return), (error))": "", "f(a = b)": "", "(a = b) + c": "", "a = b = c": "", "x = (return y)": "", "x = (a; b)": "", "return (a = b)": "", "return (return)": "", "return (a; b)": "", "return a + b": "",
		"(return, break)": "", "((a; b), c)": "", "f(a, b where x = c)?": "", "f( where x = (c = d), y = (error))": "f(where x = (c = d), y = (error))", "e.f.>g~h": "", "e[T, p.U[V] val^]": "", "[as T: a; return; b]": "", "[as T:]": "", "[as T: (a, b)]": "",
		"let x: T": "", "var x: T = 1": "", "(let x: T).f": "", "(let x: T)[U]": "", "let x: T(1)": "", "let x: T~f": "", "let x: T.>f": "", "let x: T!.>f": "", "let x: T + 1": "", "let x: {()}(1)": "", "(let x: T\n.f)": "(let x: T).f",
		"'a'": "97", "0xFF": "255", "1_0.5E+3": "10.5e+3", "\"\\u00e9\\x41\"": "\"éA\"", "\"\"\"a\n\"\"\"": "\"a\\n\"", "true": "", "this": "", "break": "", "continue": "", "error": "", "return": "", "1.f": "", "1.5.f": "",
		"{ () => a}": "{() => a }", "{(x:T,y:U=1)(z:V=e):R?=>a}val": "{(x: T, y: U = 1)(z: V = e): R ? => a } val", "{() => return}": "{() => return }", "{() => a = b }": "", "{() => {() => a } }.f": "", "(a + b)()": "", "(return)()": "", "(a = b).c": "", "a is b": "", "a isnt b": "", "(a, b) = c": "",
		"a -? b": "", "(a and b) or c": "", "(if_; b).c": "",
	})
}

func TestLines(t *testing.T) {
	checkExprs(t, map[string]string{
		"if a then b else c end":                                  "if a then\n  b\nelse\n  c\nend",
		"if a then b elseif c then d else (e;f) end":              "if a then\n  b\nelseif c then\n  d\nelse\n  e\n  f\nend",
		"if a then b else if c then d end end":                    "if a then\n  b\nelseif c then\n  d\nend",
		"if (a; b) then (c = d) end":                              "if (a; b) then\n  c = d\nend",
		"if return then x end":                                    "if return then\n  x\nend",
		"ifdef (a and b) then c else if d then e end end":         "ifdef a and b then\n  c\nelse\n  if d then\n    e\n  end\nend",
		"ifdef (a = b) then c end":                                "ifdef (a = b) then\n  c\nend",
		"while a do b else c end":                                 "while a do\n  b\nelse\n  c\nend",
		"repeat a until b end":                                    "repeat\n  a\nuntil b\nend",
		"for i: A in b do c else d end":                           "for i: A in b do\n  c\nelse\n  d\nend",
		"with x: A = (b = c) do d; e end":                         "with x: A = (b = c) do\n  d\n  e\nend",
		"match a | let y: U8 if b => c | 1 => d; e else f end":    "match a\n| let y: U8 if b =>\n  c\n| 1 =>\n  d\n  e\nelse\n  f\nend",
		"try a else b then c end":                                 "try\n  a\nelse\n  b\nthen\n  c\nend",
		"try a then c end":                                        "try\n  a\nthen\n  c\nend",
		"recover val a end":                                       "recover val\n  a\nend",
		"recover a end":                                           "recover\n  a\nend",
		"object end":                                              "object\nend",
		"object val is A let x: B = 1 fun f() => x; y be g() end": "object val is A\n  let x: B = 1\n  fun f() =>\n    x\n    y\n  be g()\nend",
		"{(x: T): R => a; b } val":                                "{(x: T): R =>\n  a\n  b\n} val",
		"{() => if a then b end }":                                "{() =>\n  if a then\n    b\n  end\n}",
		"{()(x: T = if a then b end) => c }":                      "{()(x: T = if a then\n  b\nend) => c }",
		"x = if a then b end":                                     "x = if a then\n  b\nend",
		"f(if a then b end, c).d":                                 "f(if a then\n  b\nend, c).d",
		"while if a then b end do if c then d end end":            "while if a then\n  b\nend do\n  if c then\n    d\n  end\nend",
		"(if a then b end; c) + d":                                "(if a then\n  b\nend; c) + d",
		"a; b":                                                    "a\nb",
		"[as T: if a then b end; c]":                              "[as T: if a then\n  b\nend; c]",
	})
}

func TestTypes(t *testing.T) {
	for s, want := range map[string]string{
		"A": "A", "p.A[B,C]val^": "p.A[B, C] val^", "A ! ": "A!", "A|B": "(A | B)", "A & B & C": "(A & B & C)", "((A|B)|C)": "((A | B) | C)", "(A|B, (C, D))": "((A | B), (C, D))", "((A & B) | C)": "((A & B) | C)", "A->B->C": "A->B->C", "(A->B)->C": "(A->B)->C",
		"(A | B)->C": "(A | B)->C", "this -> A": "this->A", "{()}": "{()}", "{(A,B):C?}val^": "{(A, B): C ?} val^", "{() ?}!": "{() ?}!", "A #any": "A #any",
	} {
		n, _, e := parser.Type(s)
		got, f := Text(n)
		m, _, g := parser.Type(got)
		if e != api.OK || f != api.OK || g != api.OK || got != want || !syntax.Equal(n, m) {
			t.Errorf("%q: %q, errors %d %d %d, want %q", s, got, e, f, g, want)
		}
	}
}

func TestModule(t *testing.T) {
	for s, want := range map[string]string{
		"": "", " // c\n": "",
		"use \"a/b\" class  C[A:B val] is (I&J) let x:U8=1 fun f(y:U8=2):U8? => (x+y)*y":                                  "use \"a/b\"\nclass C[A: B val] is (I & J)\n  let x: U8 = 1\n  fun f(y: U8 = 2): U8 ? =>\n    (x + y) * y\n",
		"use \"p\" if a and b type ref T[A, B: C] is A actor iso D be go(a: A) new create() => return; error primitive P": "use \"p\" if a and b\ntype ref T[A, B: C] is A\nactor iso D\n  be go(a: A)\n  new create() =>\n    return\n    error\nprimitive P\n",
		"class C fun val f[A](x: A = if a then b end) => if c then d end":                                                 "class C\n  fun val f[A](x: A = if a then\n    b\n  end) =>\n    if c then\n      d\n    end\n",
	} {
		got, at, e := Module(s)
		if e != api.OK || at != 0 || got != want {
			t.Errorf("%q:\n%s\nerror %d, want\n%s", s, got, e, want)
		}
		if again, _, e := Module(got); e != api.OK || again != got {
			t.Errorf("%q changes: %q, error %d", got, again, e)
		}
	}
	for s, want := range map[string]int{"class C\n  fun f( => 1": 17, "@": 0, "class": 5} {
		if got, at, e := Module(s); e == api.OK || at != want || got != "" {
			t.Errorf("Module(%q): %q, error %d at %d", s, got, e, at)
		}
	}
}

func TestErrors(t *testing.T) {
	x, word, nothing := node(syntax.Name, "x"), node(syntax.Word, ""), node(syntax.Nothing, "")
	a := node(syntax.NamedType, "A", word, word)
	field := node(syntax.Field, "f", node(syntax.Word, "let"), a, nothing)
	method := node(syntax.Method, "m", node(syntax.Word, "fun"), word, node(syntax.Bounds, ""), node(syntax.Params, ""), nothing, word, nothing)
	seq := node(syntax.Seq, "", x, x)
	deep := x
	for range 100 {
		deep = node(syntax.Return, "", deep)
	}
	large := node(syntax.Seq, "", x)
	for range 3000 {
		large.Kids = append(large.Kids, node(syntax.Name, "abcdef"))
	}
	for i, c := range []struct {
		n    api.Node
		want api.Errno
	}{
		{api.Node{}, api.ErrForm}, {node(syntax.Name, ""), api.ErrForm}, {node(syntax.Seq, "", x), api.ErrForm}, {deep, api.ErrSize}, {word, api.ErrArg}, {nothing, api.ErrArg}, {node(syntax.Params, ""), api.ErrArg}, {field, api.ErrArg}, {method, api.ErrArg},
		{node(syntax.Case, "", x, nothing, x), api.ErrArg}, {node(syntax.Named, "a", x), api.ErrArg}, {node(syntax.Object, "", word, nothing, method, field), api.ErrForm}, {node(syntax.Object, "", word, nothing, field, method), api.OK},
		{node(syntax.Module, "", node(syntax.Entity, "C", node(syntax.Word, "class"), word, node(syntax.Bounds, ""), nothing, method, field)), api.ErrForm}, {node(syntax.Array, "", a, seq), api.ErrForm}, {node(syntax.Array, "", a, x, node(syntax.Return, "", node(syntax.Array, "", a, seq))), api.ErrForm},
		{node(syntax.Case, "", node(syntax.Array, "", a, seq), nothing, x), api.ErrArg}, {large, api.ErrLarge},
	} {
		s, e := Text(c.n)
		if e != c.want || e != api.OK && s != "" || Parses(c.n) != (c.want == api.OK || c.want == api.ErrLarge) {
			t.Errorf("tree %d: %q, error %d, want %d, Parses %v", i, s, e, c.want, Parses(c.n))
		}
	}
	if s, at, e := Module("class C fun f() => x = " + strings.Repeat("if a then ", 60) + "b" + strings.Repeat(" end", 60) + strings.Repeat(";a", 1000)); e != api.OK || at != 0 || s == "" {
		t.Errorf("a deep module: error %d at %d", e, at)
	}
	if s, at, e := Module("class C fun f() => " + strings.Repeat("if a then ", 60) + "b" + strings.Repeat(";a", 1000) + strings.Repeat(" end", 60)); e != api.ErrLarge || at != 0 || s != "" {
		t.Errorf("a module whose canonical text is too large: error %d at %d", e, at)
	}
}

// TestNested checks that deep trees do not need long.
func TestNested(t *testing.T) {
	s := "a"
	for range 40 {
		s = "{() => x; " + s + " }"
	}
	n, _, e := parser.Expr(s)
	if got, f := Text(n); e != api.OK || f != api.OK || !strings.HasPrefix(got, "{() =>\n  x\n  {() =>\n") {
		t.Errorf("nested lambdas: errors %d %d", e, f)
	}
}

// bare are the kinds and texts of the tokens of a text but brackets and `;`; the words of an if that may stand in two ways are left out.
func bare(t *testing.T, s string) []string {
	t.Helper()
	tokens, _, e := token.Scan(s)
	if e != api.OK {
		t.Fatalf("%q: error %d", s, e)
	}
	var l []string
	for _, x := range tokens {
		switch x.Text {
		case "(", ")", ";", "else", "elseif", "if", "end":
		default:
			l = append(l, x.Text)
		}
	}
	return l
}

// TestChance checks P4.2, P4.3 and P4.4 on trees by chance.
func TestChance(t *testing.T) {
	pick := sample.Source(5)
	m := sample.Maker{Pick: pick, Parsed: true}
	done := 0
	for i := range 4000 {
		make, read := m.Module, parser.Parse
		switch i % 3 {
		case 1:
			make, read = m.Expr, parser.Expr
		case 2:
			make, read = m.Type, parser.Type
		}
		n := make(4)
		s, e := Text(n)
		if e == api.ErrSize || e == api.ErrLarge {
			continue
		}
		back, at, f := read(s)
		if e != api.OK || f != api.OK || !syntax.Equal(n, back) {
			want, _ := syntax.Text(n)
			got, _ := syntax.Text(back)
			t.Fatalf("errors %d, %d at %d\n%s\n%s\n%s", e, f, at, s, want, got)
		}
		done++
		for _, line := range strings.Split(s, "\n") {
			if strings.TrimRight(line, " \t") != line || (len(line)-len(strings.TrimLeft(line, " ")))%2 > 0 {
				t.Fatalf("the line %q of %q", line, s)
			}
		}
		if i%3 == 0 {
			tight := strings.ReplaceAll(s, ", ", "\n,")
			again, _, e := Module(tight)
			if e != api.OK || again != s || !reflect.DeepEqual(bare(t, tight), bare(t, s)) {
				t.Fatalf("%q: error %d\n%q", s, e, again)
			}
		}
	}
	if done < 3000 {
		t.Errorf("only %d trees had a text", done)
	}
}

// TestBare checks that Parses is false just for the trees that the document names.
func TestBare(t *testing.T) {
	m := sample.Maker{Pick: sample.Source(6)}
	bad := 0
	for range 1500 {
		n := m.Module(4)
		if syntax.Check(n) != api.OK {
			continue
		}
		if Parses(n) != parses(n) {
			t.Fatal("Parses")
		}
		if !Parses(n) {
			bad++
			if s := write(n); s != "" {
				if back, _, e := parser.Parse(s); e == api.OK && syntax.Equal(back, n) {
					t.Fatalf("%s has a tree that has no text", s)
				}
			}
		}
	}
	if bad == 0 {
		t.Error("no tree without a text")
	}
}

func FuzzModule(f *testing.F) {
	f.Add("use \"p\" class C[A: B val] is (I & J) let x: U8 = 1 fun f(y: U8 = 2): U8 ? => (x + y) * y\nif a then b elseif c then d end")
	f.Add("actor A be go(x: {(A): B} val) => match x | let y: U8 if b => c | D => e else f end; try a.b(1, 2 where c = 3)? else b then c end")
	f.Fuzz(func(t *testing.T, s string) {
		got, at, e := Module(s)
		if e != api.OK {
			if got != "" || at > len(s) {
				t.Fatalf("%q: %q, error %d at %d", s, got, e, at)
			}
			return
		}
		n, _, _ := parser.Parse(s)
		back, _, e := parser.Parse(got)
		again, _, f := Module(got)
		if e != api.OK || f != api.OK || !syntax.Equal(n, back) || again != got {
			t.Fatalf("%q: %q, errors %d %d", s, got, e, f)
		}
	})
}

// TestAnything checks P1 and P2 on trees that need not be well-formed.
func TestAnything(t *testing.T) {
	m := sample.Maker{Pick: sample.Source(9)}
	for i := range 3000 {
		n := m.Wild(3)
		if i%2 == 0 {
			n = m.Broken(3)
		}
		s, e := Text(n)
		again, f := Text(n)
		if s != again || e != f || e != api.OK && s != "" || Parses(n) != (e == api.OK || e == api.ErrLarge) {
			t.Fatalf("%v: %q, error %d", n, s, e)
		}
		if c := syntax.Check(n); c != api.OK && e != c {
			t.Fatalf("%v: error %d, Check %d", n, e, c)
		}
	}
}
