package syntax_test

import (
	"reflect"
	"strings"
	"testing"

	"hackamore/api"
	"hackamore/internal/sample"
	. "hackamore/syntax"
)

func node(kind int, text string, kids ...api.Node) api.Node {
	return api.Node{Kind: kind, Text: text, Kids: kids}
}

func word(text string) api.Node { return node(Word, text) }
func name(text string) api.Node { return node(Name, text) }
func none() api.Node            { return node(Nothing, "") }
func typ(text string) api.Node  { return node(NamedType, text, word(""), word("")) }

func TestText(t *testing.T) {
	for want, n := range map[string]api.Node{
		`(Assign (Name "x") (IntLit "1"))`: node(Assign, "", name("x"), node(IntLit, "1")),
		`(Module)`:                         node(Module, ""),
		`(Word)`:                           word(""),
		`(Word "a\n\x01é\"")`:              word("a\n\x01é\""),
		`(StringLit "\x7F\t")`:             node(StringLit, "\x7f\t"),
		`(Use "a/b" (Name "f"))`:           node(Use, "a/b", name("f")),
		`(NamedType "p.C" (Word "#any") (Word "^"))`: node(NamedType, "p.C", word("#any"), word("^")),
	} {
		if s, e := Text(n); e != api.OK || s != want {
			t.Errorf("Text: %s, error %d; want %s", s, e, want)
		}
		if m, e := Parse(want); e != api.OK || !Equal(m, n) {
			t.Errorf("Parse(%s): %v, error %d", want, m, e)
		}
	}
}

func TestParseErrors(t *testing.T) {
	deep := strings.Repeat("(Return ", 100) + "(This)" + strings.Repeat(")", 100)
	wide := "(Tuple" + strings.Repeat(" (This)", 4000) + ")"
	for s, want := range map[string]api.Errno{
		"": api.ErrForm, "(": api.ErrForm, ")": api.ErrForm, "()": api.ErrForm, "(This": api.ErrForm, "(This) ": api.ErrForm, " (This)": api.ErrForm,
		"(This )": api.ErrForm, "(This  (This))": api.ErrForm, "(this)": api.ErrForm, "(Name)": api.ErrForm, `(Name "")`: api.ErrForm, `(Word "")`: api.ErrForm,
		`(Name  "x")`: api.ErrForm, `(Name "x"`: api.ErrForm, `(Name "x)`: api.ErrForm, `(Name "x" "y")`: api.ErrForm, `(Return (This) "x")`: api.ErrForm,
		`(Word "\q")`: api.ErrForm, `(Word "\x41")`: api.ErrForm, `(Word "\x1f")`: api.ErrForm, `(Word "\x0A")`: api.ErrForm, `(Word "\'")`: api.ErrForm, "(Word \"\n\")": api.ErrForm,
		`(Word "\u0041")`: api.ErrForm, `(Word "\`: api.ErrForm, `(Word "\x`: api.ErrForm, "(Word \"\xff\")": api.ErrForm, `(Word "\x1F")`: api.OK, `(Seq (This))`: api.ErrForm,
		`(Nope)`: api.ErrForm, `(Name "x")(Name "x")`: api.ErrForm,
		deep: api.ErrSize, wide: api.ErrSize, wide + " ": api.ErrForm, strings.Replace(wide, "(This)", "(Word)", 1): api.ErrForm,
		"(Word \"" + strings.Repeat("a", 100000-9) + "\")": api.OK, "(Word \"" + strings.Repeat("a", 100001-9) + "\")": api.ErrLarge,
	} {
		if n, e := Parse(s); e != want || e != api.OK && !reflect.DeepEqual(n, api.Node{}) {
			t.Errorf("Parse(%.40s): error %d, want %d", s, e, want)
		}
	}
}

// TestGood has a well-formed tree of each kind; each change of one of them makes it wrong.
func TestGood(t *testing.T) {
	x, y := name("x"), name("y")
	bounds, params := node(Bounds, ""), node(Params, "")
	kase := node(Case, "", x, none(), x)
	good := []api.Node{
		node(Module, "", node(Use, "p", none()), node(Entity, "C", word("class"), word("ref"), bounds, none())),
		node(Entity, "C", word("type"), word(""), node(Bounds, "", node(Bound, "A", none()), node(Bound, "B", typ("A"))), typ("p.T")),
		node(Entity, "C", word("actor"), word(""), bounds, typ("T"), node(Method, "m", word("be"), word("tag"), bounds, params, none(), word("?"), x), node(Field, "f", word("let"), typ("A"), x)),
		node(Params, "", node(Param, "x", typ("T"), none()), node(Param, "y", typ("T"), x)),
		node(NamedType, "A", word("iso"), word("!"), typ("B"), typ("C")),
		node(UnionType, "", typ("A"), typ("B"), typ("C")), node(BothType, "", typ("A"), typ("B")), node(TupleType, "", typ("A"), typ("B")),
		node(ArrowType, "", node(ThisType, ""), typ("B")), node(LambdaType, "", word("val"), word("^"), word("?"), typ("R"), typ("A")),
		node(IntLit, "0"), node(IntLit, "340282366920938463463374607431768211455"), node(FloatLit, "1.5e-7"), node(FloatLit, "1e5"), node(StringLit, ""), node(BoolLit, "true"),
		node(Seq, "", x, y), node(Decl, "x", word("var"), typ("A")), node(Assign, "", node(Decl, "x", word("var"), typ("A")), y),
		node(Assign, "", node(Tuple, "", x, node(Tuple, "", node(Dot, "f", x), node(Call, "", x, word("")))), y),
		node(Dot, "f", x), node(Tilde, "f", x), node(Chain, "f", x), node(Call, "", x, word("?"), x, y, node(Named, "a", x), node(Named, "a", x)),
		node(Qualify, "", x, typ("A")), node(Tuple, "", x, y), node(Array, "", typ("A"), x), node(Array, "", typ("A")), node(Unary, "not", x), node(Unary, "-", x),
		node(Binary, "+?", x, y), node(As, "", x, typ("A")), node(Consume, "", x), node(Recover, "", word("iso"), x), node(If, "", x, x, none()), node(Ifdef, "", x, x, y),
		node(While, "", x, x, none()), node(Repeat, "", x, y), node(For, "i", typ("A"), x, x, none()), node(With, "i", typ("A"), x, x), node(Match, "", x, none(), kase, kase),
		node(Try, "", x, none(), y), node(Error, ""), node(Return, "", none()), node(Return, "", x), node(Break, ""), node(Continue, ""),
		node(Object, "", word("val"), typ("A"), node(Field, "f", word("var"), typ("A"), none())), node(Lambda, "", word(""), params, typ("A"), word(""), x, node(Capture, "c", typ("A"), x)),
	}
	for _, n := range good {
		if e := Check(n); e != api.OK {
			s, _ := Text(n)
			t.Errorf("Check of %s %v: error %d", s, n, e)
		}
	}
	for i, n := range []api.Node{
		{}, {Kind: -1}, {Kind: Last + 1}, node(Module, "x"), node(Module, "", node(Entity, "C", word("class"), word(""), bounds, none()), node(Use, "p", none())),
		node(Module, "", x), node(Use, "", none()), node(Use, "p/", none()), node(Use, "p//q", none()), node(Use, "p.q", none()), node(Use, "p"), node(Use, "p", typ("A")),
		node(Entity, "C", word("klass"), word(""), bounds, none()), node(Entity, "C", word(""), word(""), bounds, none()), node(Entity, "C", word("class"), word("#any"), bounds, none()),
		node(Entity, "C", word("type"), word(""), bounds, none()), node(Entity, "C", word("type"), word(""), bounds, typ("A"), node(Field, "f", word("let"), typ("A"), x)),
		node(Entity, "if", word("class"), word(""), bounds, none()), node(Entity, "C", word("class"), word(""), bounds), node(Entity, "C", word("class"), word(""), bounds, none(), x),
		node(Word, "\xff"), node(Word, "", x), node(Nothing, "x"), node(Bounds, "", x), node(Bound, "A", x), node(Field, "f", word(""), typ("A"), x), node(Field, "f", word("let"), none(), x),
		node(Method, "m", word("get"), word(""), bounds, params, none(), word(""), none()), node(Method, "m", word("fun"), word("#any"), bounds, params, none(), word(""), none()),
		node(Method, "m", word("fun"), word(""), params, bounds, none(), word(""), none()), node(Method, "m", word("fun"), word(""), bounds, params, none(), word("!"), none()),
		node(Param, "x", x, none()), node(NamedType, "a.b.c", word(""), word("")), node(NamedType, ".a", word(""), word("")), node(NamedType, "a.", word(""), word("")),
		node(NamedType, "A", word("^"), word("")), node(NamedType, "A", word(""), word("val")), node(NamedType, "A", word(""), word(""), x), node(NamedType, "A", word("")),
		node(UnionType, "", typ("A")), node(BothType, ""), node(TupleType, "", typ("A"), x), node(ArrowType, "", typ("A")), node(ArrowType, "", typ("A"), typ("A"), typ("A")), node(ThisType, "this"),
		node(LambdaType, "", word("#any"), word(""), word(""), none()), node(LambdaType, "", word(""), word(""), word(""), none(), none()),
		node(IntLit, ""), node(IntLit, "01"), node(IntLit, "-1"), node(IntLit, "0x1"), node(IntLit, "340282366920938463463374607431768211456"), node(FloatLit, "1"), node(FloatLit, "1E5"), node(FloatLit, "1_0.0"),
		node(FloatLit, strings.Repeat("1", api.MaxSource)+".0"), node(StringLit, "\xff"), node(BoolLit, ""), node(BoolLit, "yes"), node(Name, ""), node(Name, "a.b"), node(Name, strings.Repeat("a", 61)), node(This, "this"),
		node(Seq, "", x), node(Seq, "", x, node(Seq, "", x, y)), node(Seq, "", x, none()), node(Decl, "x", word("val"), typ("A")), node(Decl, "x", word("let")),
		node(Assign, "", node(IntLit, "1"), x), node(Assign, "", node(Tuple, "", x, node(IntLit, "1")), x), node(Assign, "", node(Tuple, "", x, node(Tuple, "", x, node(This, ""))), x), node(Assign, "", node(Qualify, "", x, typ("A")), x),
		node(Dot, "", x), node(Dot, "f"), node(Call, "", x), node(Call, "", x, word("?"), node(Named, "a", x), x), node(Call, "", x, word("!")), node(Call, "", node(Named, "a", x), word("")), node(Qualify, "", x), node(Qualify, "", x, x),
		node(Tuple, "", x), node(Array, ""), node(Array, "", x), node(Unary, "+", x), node(Unary, "not ", x), node(Binary, "", x, y), node(Binary, "=", x, y), node(Binary, "+ -", x, y), node(Binary, "not", x, y), node(As, "", typ("A"), x),
		node(Recover, "", word("#any"), x), node(If, "", x, x), node(If, "", x, none(), x), node(While, "", none(), x, none()), node(Repeat, "", x, none()), node(For, "i", typ("A"), x, x), node(With, "i", x, x, x), node(Match, "", x, none()), node(Match, "", x, kase),
		node(Match, "", x, none(), x), node(Case, "", none(), none(), x), node(Try, "", x, none()), node(Error, "", x), node(Return, ""), node(Break, "x"), node(Continue, "", x), node(Object, "", word(""), none(), x), node(Object, "", word(""), x),
		node(Lambda, "", word(""), params, none(), word(""), none()), node(Lambda, "", word(""), params, none(), word(""), x, x), node(Capture, "c", typ("A"), none()), node(Tuple, "", x, kase), node(Tuple, "", x, node(Named, "a", x)),
		node(Tuple, "", x, node(Return, "", node(Seq, "", x))),
	} {
		if e := Check(n); e != api.ErrForm {
			t.Errorf("wrong tree %d, %v: error %d", i, n, e)
		}
		if s, e := Text(n); e != api.ErrForm || s != "" {
			t.Errorf("Text of wrong tree %d: %q, error %d", i, s, e)
		}
	}
}

func TestSize(t *testing.T) {
	wide, deep := node(Tuple, ""), name("x")
	for range 3999 {
		wide.Kids = append(wide.Kids, name("x"))
	}
	for range 99 {
		deep = node(Return, "", deep)
	}
	if e := Check(wide); e != api.OK {
		t.Errorf("4000 nodes: error %d", e)
	}
	if e := Check(deep); e != api.OK {
		t.Errorf("a depth of 100: error %d", e)
	}
	if n, d := Size(wide); n != 4000 || d != 2 {
		t.Errorf("Size: %d, %d", n, d)
	}
	if n, d := Size(deep); n != 100 || d != 100 {
		t.Errorf("Size: %d, %d", n, d)
	}
	wide.Kids[0].Text = ""
	wide.Kids = append(wide.Kids, name("x"))
	deep = node(Return, "wrong", deep)
	for _, n := range []api.Node{wide, deep} {
		if e := Check(n); e != api.ErrSize {
			t.Errorf("a tree that is too large, and of a wrong form: error %d", e)
		}
		if _, e := Text(n); e != api.ErrSize {
			t.Errorf("its Text: error %d", e)
		}
	}
	ring := make([]api.Node, 2)
	ring[0], ring[1] = node(Return, "", ring...), name("x")
	ring[0].Kids = ring
	if e := Check(ring[0]); e != api.ErrSize {
		t.Errorf("a ring: error %d", e)
	}
}

func TestGroups(t *testing.T) {
	for k := -1; k <= Last+1; k++ {
		n := node(k, "")
		isType := k >= 12 && k <= 18
		isExpr := k >= 19 && k <= 31 || k >= 33 && k <= 47 || k >= 49 && k <= 55
		if IsType(n) != isType || IsExpr(n) != isExpr || IsMember(n) != (k == 8 || k == 9) {
			t.Errorf("groups of the kind %d", k)
		}
	}
}

func TestParts(t *testing.T) {
	n, _ := Parse(`(Assign (Name "x") (Return (IntLit "1")))`)
	if p, e := At(n, []int{1, 0}); e != api.OK || p.Text != "1" {
		t.Errorf("At: %v, error %d", p, e)
	}
	if p, e := At(n, nil); e != api.OK || !Equal(p, n) {
		t.Errorf("At of no path: %v, error %d", p, e)
	}
	for _, path := range [][]int{{2}, {-1}, {0, 0}, {1, 0, 0}, {1, 1}} {
		if p, e := At(n, path); e != api.ErrNone || !reflect.DeepEqual(p, api.Node{}) {
			t.Errorf("At %v: %v, error %d", path, p, e)
		}
		if p, e := Put(n, path, name("y")); e != api.ErrNone || !reflect.DeepEqual(p, api.Node{}) {
			t.Errorf("Put %v: %v, error %d", path, p, e)
		}
	}
	m, e := Put(n, []int{1, 0}, name("y"))
	s, _ := Text(m)
	old, _ := Text(n)
	if e != api.OK || s != `(Assign (Name "x") (Return (Name "y")))` || old != `(Assign (Name "x") (Return (IntLit "1")))` {
		t.Errorf("Put: %s, error %d; the old tree: %s", s, e, old)
	}
	if m, e := Put(n, nil, name("y")); e != api.OK || !Equal(m, name("y")) {
		t.Errorf("Put with no path: %v, error %d", m, e)
	}
	if !Equal(node(Seq, ""), api.Node{Kind: Seq, Kids: []api.Node{}}) || Equal(name("x"), name("y")) || Equal(name("x"), node(Dot, "x")) || Equal(node(Seq, "", name("x")), node(Seq, "")) {
		t.Error("Equal")
	}
}

// paths are the paths of all parts of a tree.
func paths(n api.Node) [][]int {
	l := [][]int{nil}
	for i, k := range n.Kids {
		for _, p := range paths(k) {
			l = append(l, append([]int{i}, p...))
		}
	}
	return l
}

// TestChance checks P2.2, P2.3 and P2.4 on trees by chance.
func TestChance(t *testing.T) {
	pick := sample.Source(1)
	m := sample.Maker{Pick: pick}
	seen := map[string]api.Node{}
	for range 600 {
		n := m.Module(4)
		if pick(2) == 0 {
			n = m.Expr(4)
		}
		nodes, depth := Size(n)
		if nodes > 400 || depth > api.MaxTree {
			continue
		}
		s, e := Text(n)
		back, f := Parse(s)
		again, _ := Text(back)
		if e != api.OK || f != api.OK || !Equal(n, back) || again != s {
			t.Fatalf("%s: errors %d %d", s, e, f)
		}
		if other, ok := seen[s]; ok && !Equal(n, other) {
			t.Fatalf("two trees with the text %s", s)
		}
		seen[s] = n
		for _, path := range paths(n) {
			part, e := At(n, path)
			same, f := Put(n, path, part)
			if e != api.OK || f != api.OK || !Equal(same, n) || Check(part) != api.OK {
				t.Fatalf("%s at %v", s, path)
			}
			other, _ := Put(n, path, name("other"))
			if p, _ := At(other, path); !Equal(p, name("other")) || Equal(other, n) {
				t.Fatalf("At of Put of %s at %v", s, path)
			}
		}
	}
}

// TestAnything checks that no tree or text makes a function panic.
func TestAnything(t *testing.T) {
	pick := sample.Source(2)
	var wild func(depth int) api.Node
	wild = func(depth int) api.Node {
		n := node(pick(Last+4)-2, []string{"", "x", "1", "class", "\xff", "not"}[pick(6)])
		if depth > 0 {
			for range pick(5) {
				n.Kids = append(n.Kids, wild(depth-1))
			}
		}
		return n
	}
	for range 3000 {
		n := wild(3)
		if s, e := Text(n); e == api.OK {
			if m, e := Parse(s); e != api.OK || !Equal(m, n) {
				t.Fatalf("Parse(%s): error %d", s, e)
			}
		}
		if Check(n) != Check(n) {
			t.Fatal("Check differs from itself")
		}
	}
	pieces := []string{"(", ")", " ", "\"", "Name", "This", "x", "\\", "Seq", "(This)", "\x00"}
	for range 3000 {
		var b strings.Builder
		for range pick(12) {
			b.WriteString(pieces[pick(len(pieces))])
		}
		if n, e := Parse(b.String()); e == api.OK {
			if s, _ := Text(n); s != b.String() {
				t.Fatalf("Parse(%s)", b.String())
			}
		}
	}
}
