package derive_test

import (
	"reflect"
	"slices"
	"strings"
	"testing"

	"hackamore/api"
	"hackamore/check"
	. "hackamore/derive"
	"hackamore/internal/sample"
)

func body(entity, method int, l ...api.Type) check.Body {
	return check.Body{Entity: entity, Method: method, Types: l}
}

func certificate(l ...check.Body) check.Certificate { return check.Certificate{Bodies: l} }

func TestText(t *testing.T) {
	odd := api.Type{Kind: api.TypeName, Name: "a\nb", Cap: api.Iso, Mark: api.Aliased}
	wrong := api.Type{Kind: api.TypeName}
	large := api.Type{Kind: api.TypeTuple, Args: slices.Repeat([]api.Type{{Kind: api.TypeName, Name: strings.Repeat("x", 300), Cap: api.Val}}, 64)}
	larger := api.Type{Kind: api.TypeTuple, Args: []api.Type{large, large}}
	wide, kindless := api.Type{Kind: api.TypeTuple, Args: make([]api.Type, 400)}, api.Type{Args: make([]api.Type, 400)}
	for _, c := range []struct {
		c    check.Certificate
		want string
		e    api.Errno
	}{
		{certificate(), "", api.OK}, {certificate(body(0, 0)), "body 0 0\n", api.OK}, {certificate(body(12, 345, typ("U8 val"), api.Type{}, typ("(U8 val | None val)")), body(0, 7, api.Type{})), "body 12 345\nU8 val\n-\n(U8 val | None val)\nbody 0 7\n-\n", api.OK},
		{certificate(body(0, 0, odd, typ("body ref"), typ(`"-" ref`))), "body 0 0\n\"a\\nb\" iso!\nbody ref\n\"-\" ref\n", api.OK}, {certificate(body(3, 1), body(3, 1), body(0, 0)), "body 3 1\nbody 3 1\nbody 0 0\n", api.OK},
		{certificate(body(-1, 0)), "", api.ErrRange}, {certificate(body(0, -1)), "", api.ErrRange}, {certificate(body(0, 0, wrong), body(0, -1)), "", api.ErrRange}, {certificate(body(0, 0, typ("U8 val"), wrong)), "", api.ErrForm}, {certificate(body(0, 0, api.Type{Name: "x"})), "", api.ErrForm},
		{certificate(body(0, 0, wide), body(0, 1, wrong)), "", api.ErrSize}, {certificate(body(0, 0, wide, kindless)), "", api.ErrSize}, {certificate(body(0, 0, kindless), body(0, 1, wide)), "", api.ErrForm}, {certificate(body(0, 0, larger)), "", api.ErrSize}, {certificate(body(0, 0, larger, wrong)), "", api.ErrForm}, {certificate(body(0, 0, larger, api.Type{})), "", api.ErrSize},
		{certificate(body(0, 0, slices.Repeat([]api.Type{large}, 52)...)), "", api.ErrSize}, {certificate(slices.Repeat([]check.Body{body(0, 0)}, 111112)...), "", api.ErrSize},
	} {
		if s, e := Text(c.c); s != c.want || e != c.e {
			t.Errorf("%.100v: %s, error %d, not %d", c.c, s, e, c.e)
		}
		if got, e := Parse(c.want); c.e == api.OK && (e != api.OK || !alike(got, c.c)) {
			t.Errorf("Parse of %s: error %d", c.want, e)
		}
	}
	// At the limits: a text of a million bytes, and a type of 20000.
	full := certificate(body(0, 0, make([]api.Type, 499991)...), body(0, 0))
	s, e := Text(full)
	if len(s) != MaxText || e != api.OK {
		t.Errorf("%d bytes, error %d", len(s), e)
	}
	if c, e := Parse(s); e != api.OK || !alike(c, full) {
		t.Errorf("Parse: error %d", e)
	}
	full.Bodies[0].Types = append(full.Bodies[0].Types, api.Type{})
	if s, e = Text(full); s != "" || e != api.ErrSize {
		t.Errorf("%d bytes, error %d", len(s), e)
	}
	for n, want := range map[int]api.Errno{20000: api.OK, 20001: api.ErrSize} {
		c := certificate(body(0, 0, typeOfLength(n)))
		s, e := Text(c)
		if e != want || e == api.OK && len(s) != n+10 {
			t.Errorf("%d bytes: %d, error %d", n, len(s), e)
		}
		if d, e := Parse(s); want == api.OK && (e != api.OK || !alike(c, d)) {
			t.Errorf("%d bytes: Parse: error %d", n, e)
		}
	}
}

// typeOfLength returns a type whose text has a number of bytes.
func typeOfLength(n int) api.Type {
	t := api.Type{Kind: api.TypeTuple, Args: []api.Type{}}
	n -= 2
	for n > 0 {
		size := min(n, 304)
		if rest := n - size; rest > 0 && rest < 20 {
			size -= 20
		}
		t.Args = append(t.Args, api.Type{Kind: api.TypeName, Name: strings.Repeat("x", size-4), Cap: api.Val})
		n -= size + 2
		if len(t.Args) == 63 && n > 0 {
			t.Args = append(t.Args, typeOfLength(n))
			n = 0
		}
	}
	return t
}

func alike(a, b check.Certificate) bool {
	return slices.EqualFunc(a.Bodies, b.Bodies, func(x, y check.Body) bool {
		return x.Entity == y.Entity && x.Method == y.Method && slices.EqualFunc(x.Types, y.Types, func(s, t api.Type) bool {
			return reflect.DeepEqual(s, t) || len(s.Args) > 0 && reflect.DeepEqual(s.Args, t.Args)
		})
	})
}

func TestParseWrong(t *testing.T) {
	for _, s := range []string{
		"x", "\n", "-\n", "U8 val\n", "body 0 0", "body 0 0\nU8 val", "body 0 0\n\n", "body 0 0\nU8\n", "body 0 0\n U8 val\n", "body 0 0\nU8 val \n", "body 0 0\n--\n", "body 0 0\r\n", "body 00 0\n", "body 0 01\n", "body +1 0\n", "body -1 0\n", "body 0 -1\n", "body 0 -0\n",
		"body 0\n", "body\n", "body 0 0 0\n", "body  0 0\n", "body 0  0\n", "Body 0 0\n", "body 0 0 \n", "body 0 99999999999999999999\n", "body 0 0\n(U8 val|None val)\n", "body 0 0\nU8 val\nbody\n", "body 0 0\n\"a\nb\" ref\n", "body 0 x\n", "body 0 0\n$A\nthis ->\n",
	} {
		if c, e := Parse(s); e != api.ErrForm || len(c.Bodies) > 0 {
			t.Errorf("%q: %v, error %d", s, c, e)
		}
	}
	if c, e := Parse(strings.Repeat("x", MaxText+1)); e != api.ErrSize || len(c.Bodies) > 0 {
		t.Errorf("error %d", e)
	}
	if _, e := Parse(strings.Repeat("x", MaxText)); e != api.ErrForm {
		t.Errorf("error %d", e)
	}
}

// TestTextsByChance: what Text writes Parse reads, and nothing that differs in a byte is the same certificate.
func TestTextsByChance(t *testing.T) {
	pick := sample.Source(9)
	m := sample.TypeMaker{Pick: pick, Self: true, Params: []string{"A", "b c"}, Names: map[int][]string{0: {"U8", "main.Cell", "body", "-", "a\nb"}, 1: {"Array"}, 2: {"Map"}}}
	for range 1000 {
		var c check.Certificate
		for range pick(4) {
			b := body(pick(30), pick(30))
			for range pick(4) {
				x := m.Type(pick(3))
				if pick(4) == 0 {
					x = api.Type{}
				}
				b.Types = append(b.Types, x)
			}
			c.Bodies = append(c.Bodies, b)
		}
		s, e := Text(c)
		d, e2 := Parse(s)
		if e != api.OK || e2 != api.OK || !alike(c, d) {
			t.Fatalf("%s: error %d, %d", s, e, e2)
		}
		if s == "" {
			continue
		}
		i := pick(len(s))
		changed := s[:i] + string("0- \nx|("[pick(7)]) + s[i+pick(2):]
		d, e = Parse(changed)
		if again, _ := Text(d); e == api.OK && again != changed || e != api.OK && (e != api.ErrForm || len(d.Bodies) > 0) {
			t.Fatalf("%q: error %d, %q", changed, e, again)
		}
	}
}

func TestWeaker(t *testing.T) {
	c := certificate(body(3, 1, typ("U8 val"), typ("(U8 val, None val)")), body(4, 2), body(5, 3, api.Type{}))
	for _, w := range []struct {
		body, expr int
		typ        api.Type
		want       string
		e          api.Errno
	}{
		{0, 1, typ("None val"), "body 3 1\nU8 val\nNone val\nbody 4 2\nbody 5 3\n-\n", api.OK}, {0, 0, api.Type{}, "body 3 1\n-\n(U8 val, None val)\nbody 4 2\nbody 5 3\n-\n", api.OK}, {2, 0, typ("$A"), "body 3 1\nU8 val\n(U8 val, None val)\nbody 4 2\nbody 5 3\n$A\n", api.OK},
		{-1, 0, typ("U8 val"), "", api.ErrRange}, {3, 0, typ("U8 val"), "", api.ErrRange}, {1, 0, typ("U8 val"), "", api.ErrRange}, {0, -1, typ("U8 val"), "", api.ErrRange}, {0, 2, typ("U8 val"), "", api.ErrRange}, {0, 2, api.Type{Kind: 9}, "", api.ErrRange},
		{0, 0, api.Type{Kind: 9}, "", api.ErrForm}, {0, 0, api.Type{Name: "x"}, "", api.ErrForm}, {0, 0, api.Type{Kind: api.TypeTuple, Args: make([]api.Type, 400)}, "", api.ErrSize}, {0, 0, api.Type{Args: make([]api.Type, 400)}, "", api.ErrForm}, {0, 2, api.Type{Args: make([]api.Type, 400)}, "", api.ErrRange},
	} {
		d, e := Weaker(c, w.body, w.expr, w.typ)
		if s, _ := Text(d); s != w.want || e != w.e {
			t.Errorf("%d, %d: %s, error %d", w.body, w.expr, s, e)
		}
	}
	if s, _ := Text(c); s != "body 3 1\nU8 val\n(U8 val, None val)\nbody 4 2\nbody 5 3\n-\n" {
		t.Errorf("the certificate was changed: %s", s)
	}
	d, _ := Weaker(c, 0, 0, typ("None val"))
	d.Bodies[0].Types[1].Args[0].Name = "spoilt"
	if c.Bodies[0].Types[1].Args[0].Name != "U8" {
		t.Error("memory is shared")
	}
}
