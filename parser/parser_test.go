package parser

import (
	"reflect"
	"strings"
	"testing"

	"hackamore/api"
	"hackamore/internal/sample"
	"hackamore/syntax"
	"hackamore/token"
)

// text returns the text of a tree, or the error and its place.
func text(n api.Node, at int, e api.Errno) string {
	if e != api.OK {
		return "error " + e.Error() + " at " + api.Errno(at).Error()
	}
	s, e := syntax.Text(n)
	if e != api.OK || at != 0 {
		return "wrong"
	}
	return strings.ReplaceAll(strings.ReplaceAll(s, "\\\"", "'"), "\"", "")
}

func check(t *testing.T, read func(string) (api.Node, int, api.Errno), want map[string]string) {
	t.Helper()
	for s, w := range want {
		n, at, e := read(s)
		if got := text(n, at, e); got != w {
			t.Errorf("%q:\n%s, want\n%s", s, got, w)
		}
		if e != api.OK && !reflect.DeepEqual(n, api.Node{}) {
			t.Errorf("%q: a tree with an error", s)
		}
	}
}

func TestExpr(t *testing.T) {
	check(t, Expr, map[string]string{
		"x = f(1) - 2":                   "(Assign (Name x) (Binary - (Call (Name f) (Word) (IntLit 1)) (IntLit 2)))",
		"x = f(1)\n- 2":                  "(Seq (Assign (Name x) (Call (Name f) (Word) (IntLit 1))) (Unary - (IntLit 2)))",
		"a + b + c":                      "(Binary + (Binary + (Name a) (Name b)) (Name c))",
		"a\n+ b":                         "(Binary + (Name a) (Name b))",
		"a\n-? b":                        "(Binary -? (Name a) (Name b))",
		"a is b":                         "(Binary is (Name a) (Name b))",
		"a isnt b":                       "(Binary isnt (Name a) (Name b))",
		"not a == - b":                   "(Binary == (Unary not (Name a)) (Unary - (Name b)))",
		"a as B":                         "(As (Name a) (NamedType B (Word) (Word)))",
		"a as B\n- c":                    "(Seq (As (Name a) (NamedType B (Word) (Word))) (Unary - (Name c)))",
		"consume x.y":                    "(Consume (Dot y (Name x)))",
		"(a; b); c":                      "(Seq (Name a) (Name b) (Name c))",
		"a; (b; c)":                      "(Seq (Name a) (Name b) (Name c))",
		"((a))":                          "(Name a)",
		"(a, b; c)":                      "(Tuple (Name a) (Seq (Name b) (Name c)))",
		"(return, error)":                "(Tuple (Return (Nothing)) (Error))",
		"a;\nb":                          "(Seq (Name a) (Name b))",
		"a\nb":                           "(Seq (Name a) (Name b))",
		"a\n.b":                          "(Dot b (Name a))",
		"a\n~b":                          "(Tilde b (Name a))",
		"a\n.>b":                         "(Chain b (Name a))",
		"a\n(b)":                         "(Seq (Name a) (Name b))",
		"a(b)":                           "(Call (Name a) (Word) (Name b))",
		"a(b)?":                          "(Call (Name a) (Word ?) (Name b))",
		"a\n[as B:]":                     "(Seq (Name a) (Array (NamedType B (Word) (Word))))",
		"a[B, C]":                        "(Qualify (Name a) (NamedType B (Word) (Word)) (NamedType C (Word) (Word)))",
		"a[B](c).d":                      "(Dot d (Call (Qualify (Name a) (NamedType B (Word) (Word))) (Word) (Name c)))",
		"f(where x = 1)?":                "(Call (Name f) (Word ?) (Named x (IntLit 1)))",
		"f(x = 1, 2 where y = 3, z = 4)": "(Call (Name f) (Word) (Assign (Name x) (IntLit 1)) (IntLit 2) (Named y (IntLit 3)) (Named z (IntLit 4)))",
		"f()":                            "(Call (Name f) (Word))",
		"a = b = c":                      "(Assign (Name a) (Assign (Name b) (Name c)))",
		"a\n= b":                         "(Assign (Name a) (Name b))",
		"(a, (b.c, d())) = e":            "(Assign (Tuple (Name a) (Tuple (Dot c (Name b)) (Call (Name d) (Word)))) (Name e))",
		"let x: A = 1":                   "(Assign (Decl x (Word let) (NamedType A (Word) (Word))) (IntLit 1))",
		"var x: (A | B val)":             "(Decl x (Word var) (UnionType (NamedType A (Word) (Word)) (NamedType B (Word val) (Word))))",
		"let x: A(1)":                    "(Call (Decl x (Word let) (NamedType A (Word) (Word))) (Word) (IntLit 1))",
		"let x: A\n[as B:]":              "(Seq (Decl x (Word let) (NamedType A (Word) (Word))) (Array (NamedType B (Word) (Word))))",
		"let x: A\n.b":                   "(Dot b (Decl x (Word let) (NamedType A (Word) (Word))))",
		"let x: A.b":                     "(Decl x (Word let) (NamedType A.b (Word) (Word)))",
		"return":                         "(Return (Nothing))",
		"return x + 1":                   "(Return (Binary + (Name x) (IntLit 1)))",
		"return\nx":                      "(Seq (Return (Nothing)) (Name x))",
		"return -1":                      "(Return (Unary - (IntLit 1)))",
		"return (a, b)":                  "(Return (Tuple (Name a) (Name b)))",
		"return [as A:]":                 "(Return (Array (NamedType A (Word) (Word))))",
		"(return) + 1":                   "(Binary + (Return (Nothing)) (IntLit 1))",
		"break; continue; error":         "(Seq (Break) (Continue) (Error))",
		"[as A: a; b\nc]":                "(Array (NamedType A (Word) (Word)) (Name a) (Name b) (Name c))",
		"[as A: (a; b)]":                 "(Array (NamedType A (Word) (Word)) (Name a) (Name b))",
		"[as A->B: a]":                   "(Array (ArrowType (NamedType A (Word) (Word)) (NamedType B (Word) (Word))) (Name a))",
		"'a' 'b'":                        "error 50 at 4",
		"1.5; \"s\"; true; false; this":  "(Seq (FloatLit 1.5) (StringLit s) (BoolLit true) (BoolLit false) (This))",
		"\")\"":                          "(StringLit ))",
		"f(\")\")":                       "(Call (Name f) (Word) (StringLit )))",
	})
}

func TestBlocks(t *testing.T) {
	check(t, Expr, map[string]string{
		"if a then b end":                                   "(If (Name a) (Name b) (Nothing))",
		"if a then b elseif c then d else e end":            "(If (Name a) (Name b) (If (Name c) (Name d) (Name e)))",
		"if a then b elseif c then d end":                   "(If (Name a) (Name b) (If (Name c) (Name d) (Nothing)))",
		"if a then b else if c then d end end":              "(If (Name a) (Name b) (If (Name c) (Name d) (Nothing)))",
		"if a; b then c\nd end":                             "(If (Seq (Name a) (Name b)) (Seq (Name c) (Name d)) (Nothing))",
		"if a then b end.c()":                               "(Call (Dot c (If (Name a) (Name b) (Nothing))) (Word))",
		"ifdef a and b then c else d end":                   "(Ifdef (Binary and (Name a) (Name b)) (Name c) (Name d))",
		"while a do b end":                                  "(While (Name a) (Name b) (Nothing))",
		"while a do b else c end":                           "(While (Name a) (Name b) (Name c))",
		"repeat a until b end":                              "(Repeat (Name a) (Name b))",
		"for i: A in b do c else d end":                     "(For i (NamedType A (Word) (Word)) (Name b) (Name c) (Name d))",
		"for i: A in b do c end":                            "(For i (NamedType A (Word) (Word)) (Name b) (Name c) (Nothing))",
		"with x: A = b do c end":                            "(With x (NamedType A (Word) (Word)) (Name b) (Name c))",
		"match x | let y: U8 => y end":                      "(Match (Name x) (Nothing) (Case (Decl y (Word let) (NamedType U8 (Word) (Word))) (Nothing) (Name y)))",
		"match x | 1 if b => c | (a, b) => d; e else f end": "(Match (Name x) (Name f) (Case (IntLit 1) (Name b) (Name c)) (Case (Tuple (Name a) (Name b)) (Nothing) (Seq (Name d) (Name e))))",
		"try a end":               "(Try (Name a) (Nothing) (Nothing))",
		"try a else b then c end": "(Try (Name a) (Name b) (Name c))",
		"try a then c end":        "(Try (Name a) (Nothing) (Name c))",
		"recover a end":           "(Recover (Word) (Name a))",
		"recover val a; b end":    "(Recover (Word val) (Seq (Name a) (Name b)))",
		"object end":              "(Object (Word) (Nothing))",
		"object val is A let x: B = 1 fun f() => x\nlet y: C end": "(Object (Word val) (NamedType A (Word) (Word)) (Field x (Word let) (NamedType B (Word) (Word)) (IntLit 1)) (Method f (Word fun) (Word) (Bounds) (Params) (Nothing) (Word) (Seq (Name x) (Decl y (Word let) (NamedType C (Word) (Word))))))",
		"{() => a }": "(Lambda (Word) (Params) (Nothing) (Word) (Name a))",
		"{(x: A, y: B = 1)(c: C = d, e: F = f): G ? => a; b } iso.h": "(Dot h (Lambda (Word iso) (Params (Param x (NamedType A (Word) (Word)) (Nothing)) (Param y (NamedType B (Word) (Word)) (IntLit 1))) (NamedType G (Word) (Word)) (Word ?) (Seq (Name a) (Name b)) (Capture c (NamedType C (Word) (Word)) (Name d)) (Capture e (NamedType F (Word) (Word)) (Name f))))",
	})
}

func TestExprErrors(t *testing.T) {
	check(t, Expr, map[string]string{
		"": "error 18 at 0", "  ": "error 18 at 2", "// c": "error 18 at 4", "a + b * c": "error 51 at 6", "a + b as C": "error 51 at 6", "a as B + c": "error 51 at 7", "a as B as C": "error 51 at 7",
		"a as B - c": "error 51 at 7", "a + b - c": "error 51 at 6", "a and b or c": "error 51 at 8", "a + ": "error 18 at 4", "a b": "error 50 at 2", "a; ": "error 18 at 3", "a;;b": "error 50 at 2", ";a": "error 50 at 0",
		"a; )": "error 50 at 3", "(a": "error 18 at 2", "()": "error 50 at 1", "(a,)": "error 50 at 3", "a)": "error 50 at 1", "1 = 2": "error 2 at 2", "a + b = c": "error 2 at 6", "this = 1": "error 2 at 5", "(a, 1) = 2": "error 2 at 7",
		"a = 1 = 2": "error 2 at 6", "return return": "error 50 at 7", "return error": "error 50 at 7", "return a = b": "error 50 at 9", "return end": "error 50 at 7", "f(return)": "error 50 at 2", "f(a where)": "error 50 at 9", "f(where a)": "error 50 at 9",
		"f(where a = 1, 2)": "error 50 at 15", "f(a": "error 18 at 3", "a.": "error 18 at 2", "a.1": "error 50 at 2", "a.if": "error 50 at 2", "a[]": "error 50 at 2", "a[B": "error 18 at 3", "[a]": "error 50 at 1", "[as A]": "error 50 at 5",
		"[as A: ;]": "error 50 at 7", "let x = 1": "error 50 at 6", "let x: A | B": "error 50 at 9", "if a then end": "error 50 at 10", "if a end": "error 50 at 5", "if a then b": "error 18 at 11", "match a end": "error 50 at 8", "match a | b end": "error 50 at 12",
		"match a else b end": "error 50 at 8", "try end": "error 50 at 4", "recover end": "error 50 at 8", "object 1 end": "error 50 at 7", "{a}": "error 50 at 1", "{() a}": "error 50 at 4",
		"{() => }": "error 50 at 7", "{() => a": "error 18 at 8", "{()() => a}": "error 50 at 4", "ifdef a; b then c end": "error 50 at 7", "with x: A = b; c do d end": "error 50 at 13", "while a do b until": "error 50 at 13", "a\n?": "error 50 at 2",
		"f()\n?": "error 50 at 4", "a ^ b": "error 50 at 2", "=> a": "error 50 at 0", "fun": "error 50 at 0", "class C": "error 50 at 0", "a @": "error 30 at 2", "a \"": "error 31 at 2", "1__0": "error 33 at 0", "/*": "error 32 at 0",
		strings.Repeat("a", 61): "error 2 at 0", "a." + strings.Repeat("b", 61): "error 2 at 2", "a + a b * c": "error 50 at 6", "let x: A, b": "error 50 at 8", "object be tag m() => x end)": "error 50 at 26", "a end": "error 50 at 2",
		"not": "error 18 at 3", "return not": "error 18 at 10", "elseif": "error 50 at 0", "a is is b": "error 50 at 5",
	})
	nested := func(n int) string { return strings.Repeat("not ", n) + "a" }
	check(t, Expr, map[string]string{nested(100): "error 4 at 0", nested(4000) + " )": "error 50 at 16002", strings.Repeat("(", 9000): "error 18 at 9000"})
	if _, _, e := Expr(nested(99)); e != api.OK {
		t.Errorf("a depth of MaxTree: error %d", e)
	}
	if _, _, e := Expr("(" + strings.Repeat("a,", 3998) + "a)"); e != api.OK {
		t.Errorf("MaxNodes nodes: error %d", e)
	}
	if _, at, e := Expr("(" + strings.Repeat("a,", 3999) + "a)"); e != api.ErrSize || at != 0 {
		t.Errorf("more than MaxNodes nodes: error %d at %d", e, at)
	}
	if _, at, e := Expr(strings.Repeat("(", 20001)); e != api.ErrLarge || at != 0 {
		t.Errorf("a text that is too long: error %d at %d", e, at)
	}
	if _, _, e := Expr(strings.Repeat("(", 9999) + "a" + strings.Repeat(")", 9999)); e != api.OK {
		t.Errorf("many brackets: error %d", e)
	}
}

func TestType(t *testing.T) {
	check(t, Type, map[string]string{
		"A":                  "(NamedType A (Word) (Word))",
		"p.A[B, C] val^":     "(NamedType p.A (Word val) (Word ^) (NamedType B (Word) (Word)) (NamedType C (Word) (Word)))",
		"A #read!":           "(NamedType A (Word #read) (Word !))",
		"A\nval":             "(NamedType A (Word val) (Word))",
		"A!":                 "(NamedType A (Word) (Word !))",
		"A | B | C":          "(UnionType (NamedType A (Word) (Word)) (NamedType B (Word) (Word)) (NamedType C (Word) (Word)))",
		"A & B":              "(BothType (NamedType A (Word) (Word)) (NamedType B (Word) (Word)))",
		"((A | B) | C)":      "(UnionType (UnionType (NamedType A (Word) (Word)) (NamedType B (Word) (Word))) (NamedType C (Word) (Word)))",
		"(A)":                "(NamedType A (Word) (Word))",
		"(A, B | C)":         "(TupleType (NamedType A (Word) (Word)) (UnionType (NamedType B (Word) (Word)) (NamedType C (Word) (Word))))",
		"this->A":            "(ArrowType (ThisType) (NamedType A (Word) (Word)))",
		"A->B->C":            "(ArrowType (NamedType A (Word) (Word)) (ArrowType (NamedType B (Word) (Word)) (NamedType C (Word) (Word))))",
		"(A->B)->C":          "(ArrowType (ArrowType (NamedType A (Word) (Word)) (NamedType B (Word) (Word))) (NamedType C (Word) (Word)))",
		"this":               "(ThisType)",
		"{()}":               "(LambdaType (Word) (Word) (Word) (Nothing))",
		"{(A, B): C ?} val^": "(LambdaType (Word val) (Word ^) (Word ?) (NamedType C (Word) (Word)) (NamedType A (Word) (Word)) (NamedType B (Word) (Word)))",
		"A | B & C":          "error 51 at 6", "A & B | C": "error 51 at 6", "(A | B & C)": "error 51 at 7", "": "error 18 at 0", "A B": "error 50 at 2", "A[": "error 18 at 2", "A[]": "error 50 at 2", "A[B | C]": "error 50 at 4",
		"A\n[B]": "error 50 at 2", "A\n.B": "error 50 at 2", "A.b.C": "error 50 at 3", "A, B": "error 50 at 1", "()": "error 50 at 1", "1": "error 50 at 0", "{}": "error 50 at 1", "{(A) #any}": "error 50 at 5", "{()} #any": "error 50 at 5", "A val val": "error 50 at 6",
		"A^ val": "error 50 at 3", "A |": "error 18 at 3", "A^!": "error 50 at 2", "A->": "error 18 at 3", strings.Repeat("A", 61): "error 2 at 0", "A." + strings.Repeat("A", 61): "error 2 at 2", "val": "error 50 at 0", "{(A: B)}": "error 50 at 3",
	})
}

func TestModule(t *testing.T) {
	check(t, Parse, map[string]string{
		"":                                 "(Module)",
		"use \"p/q\" use \"r\" if a and b": "(Module (Use p/q (Nothing)) (Use r (Binary and (Name a) (Name b))))",
		"type A is B | C":                  "error 50 at 12",
		"type val A[B, C: D] is (B | C)":   "(Module (Entity A (Word type) (Word val) (Bounds (Bound B (Nothing)) (Bound C (NamedType D (Word) (Word)))) (UnionType (NamedType B (Word) (Word)) (NamedType C (Word) (Word)))))",
		"class iso C\n[A]":                 "(Module (Entity C (Word class) (Word iso) (Bounds (Bound A (Nothing))) (Nothing)))",
		"actor A is (B & C) var x: D = 1 let y: E new create() be go(a: F = 2) fun box f[G](): H ? => a\nb class I": "(Module (Entity A (Word actor) (Word) (Bounds) (BothType (NamedType B (Word) (Word)) (NamedType C (Word) (Word))) (Field x (Word var) (NamedType D (Word) (Word)) (IntLit 1)) (Field y (Word let) (NamedType E (Word) (Word)) (Nothing)) (Method create (Word new) (Word) (Bounds) (Params) (Nothing) (Word) (Nothing)) (Method go (Word be) (Word) (Bounds) (Params (Param a (NamedType F (Word) (Word)) (IntLit 2))) (Nothing) (Word) (Nothing)) (Method f (Word fun) (Word box) (Bounds (Bound G (Nothing))) (Params) (NamedType H (Word) (Word)) (Word ?) (Seq (Name a) (Name b)))) (Entity I (Word class) (Word) (Bounds) (Nothing)))",
		"primitive P trait T interface I": "(Module (Entity P (Word primitive) (Word) (Bounds) (Nothing)) (Entity T (Word trait) (Word) (Bounds) (Nothing)) (Entity I (Word interface) (Word) (Bounds) (Nothing)))",
		"class":                           "error 18 at 5", "class C\n  fun f( => 1": "error 50 at 17", "use p": "error 50 at 4", "use \"\"": "error 2 at 4", "use \"a//b\"": "error 2 at 4", "use \"a.b\"": "error 2 at 4", "class C use \"p\"": "error 50 at 8",
		"use \"p\" if a + b * c": "error 51 at 17", "x": "error 50 at 0", "class C fun f() let x: A": "error 50 at 16", "class C[]": "error 50 at 8", "class C is A | B": "error 50 at 13", "class C var x": "error 18 at 13", "class C var x: A = (1": "error 18 at 21",
		"class C fun f() =>": "error 18 at 18", "class C fun f() => new": "error 50 at 19", "type A": "error 18 at 6", "type A is B fun f()": "error 50 at 12", "class 1": "error 50 at 6", "class C fun f(x)": "error 50 at 15", "class C fun f(x: A = b = c)": "error 50 at 23",
		"class C fun f() => a end": "error 50 at 21", "class C fun #any f()": "error 50 at 12", "class " + strings.Repeat("C", 61): "error 2 at 6", "use \"" + strings.Repeat("p", 61) + "\"": "error 2 at 4", "class C fun f(): A ?? => b": "error 50 at 20",
	})
}

// pieces are tokens of which texts are made by chance.
func pieces() []string {
	l := append(token.Keywords(), token.Symbols()...)
	for range 12 {
		l = append(l, "a", "A", "(", ")", "=>", ";", "\n", ":", "end", "=", "1")
	}
	return append(l, "1.5", "\"s\"", "let x: A")
}

func chance(pick func(int) int, l []string) string {
	var b strings.Builder
	for range pick(14) {
		b.WriteString(l[pick(len(l))])
		b.WriteByte(' ')
	}
	return b.String()
}

// starts are texts without an error, which are cut and continued by chance.
func starts() []string {
	return []string{
		"use \"p\" class C[A: B val] is (I & J) let x: U8 = 1 fun f(y: U8 = 2): U8 ? => (x + y) * y\nif a then b elseif c then d end",
		"actor A be go(x: {(A): B} val) => match x | let y: U8 if b => c | D => e else f end; try a.b(1, 2 where c = 3)? else b then c end",
		"class C new create() => [as A: a; b]; object val is A let x: B = 1 fun f() => x end; {(x: A)(c: C = d): E ? => x } iso; with x: A = b do c end; x as A; consume x",
		"type T is (A | this->B^ | (A, B, p.C[D, E]))",
	}
}

// TestPlaces checks P3.3: an error with the same tokens ahead of it is at the place or behind it, or there is none.
func TestPlaces(t *testing.T) {
	pick, l := sample.Source(3), pieces()
	bad := 0
	for range 6000 {
		s := chance(pick, l)
		if pick(2) == 0 {
			start := starts()[pick(4)]
			s = start[:pick(len(start))] + " " + s
		}
		tokens, _, e := token.Scan(s)
		if e != api.OK {
			continue
		}
		_, at, e := Parse(s)
		if e == api.OK || e == api.ErrSize {
			continue
		}
		bad++
		isToken := at == len(s)
		for _, x := range tokens {
			isToken = isToken || x.At == at
		}
		if !isToken || (e == api.ErrEnd) != (at == len(s)) {
			t.Fatalf("%q: error %d at %d", s, e, at)
		}
		for range 5 {
			other := s[:at] + "\n" + chance(pick, l)
			if _, _, e := token.Scan(other); e != api.OK {
				continue
			}
			if _, behind, e := Parse(other); e != api.OK && e != api.ErrSize && behind < at {
				t.Fatalf("%q: error at %d; %q: error at %d", s, at, other, behind)
			}
		}
	}
	if bad < 1000 {
		t.Errorf("only %d texts had an error", bad)
	}
}

// TestContinued checks P3.3: what stands ahead of an error is the beginning of some text without an error.
func TestContinued(t *testing.T) {
	ends := []string{"", " a", " A", " 1", " : A", " => a", " end", " then a end", " b end", " a end", " )", " a)", " ]", " A]", " }", " : A => a }", " = a", " is A", " C", " class C", " \"p\"", " do a end", " in a do b end", " => a end", " : A = a do b end",
		" create()", " f()", " (x: A)", " A)", " x: A", " a: A)", " => a }", "| A)", " a => b end", " : a]", "as A: a]", " a: A in b do c end", " x: A = a do b end", "() => a }", " | A => a end", " a | A => a end", " A->B", " a => b }", " a = b)", " = b)", " A: a]", " a]", " until a end", "()})", ")})"}
	for _, start := range starts() {
		tokens, _, _ := token.Scan(start)
		for _, x := range tokens {
			if !continued(start[:x.At], ends, 5) {
				t.Errorf("%q has no end", start[:x.At])
			}
		}
	}
}

// continued reports whether a text has an end: it is looked for among those that bring the error further.
func continued(s string, ends []string, depth int) bool {
	_, at, e := Parse(s)
	if e == api.OK {
		return true
	}
	if depth == 0 || at < len(strings.TrimRight(s, " \n")) && e != api.ErrEnd {
		return false
	}
	for _, end := range ends {
		longer := s + end
		if _, at, e := Parse(longer); (e == api.OK || e == api.ErrEnd && at == len(longer)) && end != "" && continued(longer, ends, depth-1) {
			return true
		}
	}
	return false
}

// TestBrackets checks P3.2: brackets around a stat, and around an atom, change nothing.
func TestBrackets(t *testing.T) {
	for _, s := range []string{"a", "return a", "error", "a = b", "a + b", "if a then b end", "a; b", "let x: A", "{() => a }", "f(1)"} {
		n, _, e := Expr("x\n" + s)
		m, _, f := Expr("x\n(" + s + ")")
		if e != api.OK || f != api.OK || !syntax.Equal(n, m) {
			t.Errorf("(%s): errors %d %d", s, e, f)
		}
	}
	for _, s := range []string{"a", "1", "this", "if a then b end", "[as A: b]", "{() => a }", "(a, b)", "match a | B => c end"} {
		n, _, e := Expr("not " + s + ".f(1)")
		m, _, f := Expr("not (" + s + ").f(1)")
		if e != api.OK || f != api.OK || !syntax.Equal(n, m) {
			t.Errorf("(%s): errors %d %d", s, e, f)
		}
	}
}

// TestLayout checks P3.4, P3.2 and P2: blanks and comments that leave Line as it is change nothing but places.
func TestLayout(t *testing.T) {
	pick, l := sample.Source(4), pieces()
	for i := range 3000 {
		s := chance(pick, l)
		if i < 4 {
			s = starts()[i]
		}
		tokens, _, e := token.Scan(s)
		if e != api.OK {
			continue
		}
		var b strings.Builder
		places := map[int]int{}
		for j, x := range tokens {
			gap := []string{" ", "\t /* c */ ", " /**/ "}[pick(3)]
			if x.Line {
				gap = []string{"\n", " // c\n\r\n", "/* \n */"}[pick(3)]
			}
			b.WriteString(gap)
			places[x.At] = b.Len()
			end := len(s)
			if j+1 < len(tokens) {
				end = tokens[j+1].At
			}
			b.WriteString(strings.TrimRight(s[x.At:end], " \n"))
		}
		places[len(s)] = b.Len()
		n, at, e := Parse(s)
		m, at2, e2 := Parse(b.String())
		if e != e2 || !syntax.Equal(n, m) || e != api.OK && places[at] != at2 {
			t.Fatalf("%q: error %d at %d; %q: error %d at %d", s, e, at, b.String(), e2, at2)
		}
		if e == api.OK && syntax.Check(n) != api.OK {
			t.Fatalf("%q: a wrong tree", s)
		}
		again, at3, e3 := Parse(s)
		if !reflect.DeepEqual(n, again) || at != at3 || e != e3 {
			t.Fatalf("%q differs from itself", s)
		}
	}
}

func FuzzParse(f *testing.F) {
	for _, s := range starts() {
		f.Add(s)
	}
	f.Fuzz(func(t *testing.T, s string) {
		for _, read := range []func(string) (api.Node, int, api.Errno){Parse, Expr, Type} {
			n, at, e := read(s)
			if e == api.OK && (syntax.Check(n) != api.OK || at != 0) || e != api.OK && (!reflect.DeepEqual(n, api.Node{}) || at < 0 || at > len(s)) {
				t.Fatalf("%q: error %d at %d", s, e, at)
			}
		}
	})
}
