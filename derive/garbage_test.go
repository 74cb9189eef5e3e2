package derive_test

import (
	"reflect"
	"slices"
	"strings"
	"testing"

	"hackamore/api"
	"hackamore/check"
	. "hackamore/derive"
	"hackamore/internal/sample"
	"hackamore/names"
	"hackamore/types"
)

// TestGarbage: P1 and P2: for programs, certificates and texts of any form there is a result, again the same one.
func TestGarbage(t *testing.T) {
	pick := sample.Source(21)
	m := sample.ProgramMaker{Pick: pick, Generic: true}
	any := sample.TypeMaker{Pick: pick}
	base := cells()
	proper := certified(t, base)
	for n := range 2000 {
		p, c := m.Garbage(), check.Certificate{}
		for range pick(4) {
			b := check.Body{Entity: pick(len(p)+2) - 1, Method: pick(4) - 1}
			for range pick(5) {
				b.Types = append(b.Types, any.Any(2))
			}
			c.Bodies = append(c.Bodies, b)
		}
		if n%3 == 0 {
			p = base
			c.Bodies = slices.Clone(proper.Bodies)
			at := pick(len(c.Bodies))
			c.Bodies[at].Types = slices.Clone(c.Bodies[at].Types)
			c.Bodies[at].Types[pick(len(c.Bodies[at].Types))] = any.Any(1)
		}
		f, e := Verify(p, c)
		f2, e2 := Verify(p, c)
		if e != e2 || !same(f, f2) || e == api.OK && !same(f, check.Fault{}) {
			t.Fatalf("Verify: error %d at %v, then %d at %v", e, f, e2, f2)
		}
		for _, b := range c.Bodies {
			if f, e := Body(p, b); e == api.OK && !same(f, check.Fault{}) {
				t.Fatalf("Body: fault %v", f)
			}
		}
		s, e := Text(c)
		if d, e2 := Parse(s); e == api.OK && (e2 != api.OK || !alike(c, d)) || e != api.OK && s != "" {
			t.Fatalf("%s: error %d, %d", s, e, e2)
		}
		if d, e := Weaker(c, pick(4)-1, pick(4)-1, any.Any(1)); e != api.OK && !reflect.DeepEqual(d, check.Certificate{}) {
			t.Fatalf("Weaker: error %d", e)
		}
		if n%3 == 0 && !names.Equal(p, base) {
			t.Fatal("the program was changed")
		}
	}
	if f, e := Verify(base, proper); e != api.OK {
		t.Errorf("the certificate was changed: error %d at %v", e, f)
	}
}

// TestTwiceTypes: types that are written small, but are large.
func TestTwiceTypes(t *testing.T) {
	large := typ("U8 val")
	for range 60 {
		large = api.Type{Kind: api.TypeTuple, Args: []api.Type{large, large}}
	}
	p := cell()
	c := certificate(body(0, 0, large, typ("main.Cell box")))
	if _, e := Body(p, c.Bodies[0]); e != api.ErrSize {
		t.Errorf("Body: error %d", e)
	}
	if _, e := Text(c); e != api.ErrSize {
		t.Errorf("Text: error %d", e)
	}
	if d, e := Weaker(c, 0, 1, typ("U8 val")); e != api.OK || len(d.Bodies) != 1 {
		t.Errorf("Weaker: error %d", e)
	}
	if _, e := Weaker(c, 0, 1, large); e != api.ErrSize {
		t.Errorf("Weaker: error %d", e)
	}
	if _, e := Parse("body 0 0\n" + strings.Repeat("(", 5000)); e != api.ErrForm {
		t.Errorf("Parse: error %d", e)
	}
}

// TestKindless: P14.1: a type of the Kind 0 that is not zero has ErrForm, at and beyond the limits of depth and size, also where it
// is written small but is large; with a Kind it has the error of layer 8.
func TestKindless(t *testing.T) {
	deep := func(n int) api.Type {
		x := api.Type{}
		for range n - 1 {
			x = api.Type{Args: []api.Type{x}}
		}
		return x
	}
	twice := typ("U8 val")
	for range 60 {
		twice = api.Type{Args: []api.Type{twice, twice}}
	}
	p, right := cell(), typ("main.Cell box")
	for name, x := range map[string]api.Type{
		"capped": {Cap: api.Val}, "marked": {Mark: api.Ephemeral}, "named": {Name: "x"}, "at the depth": deep(types.MaxDepth), "too deep": deep(types.MaxDepth + 1), "far too deep": deep(500),
		"at the size": {Args: make([]api.Type, types.MaxNodes-1)}, "too large": {Args: make([]api.Type, types.MaxNodes)}, "an Arg too deep": {Args: []api.Type{right, deep(types.MaxDepth)}}, "an Arg too large": {Args: []api.Type{{Kind: api.TypeTuple, Args: make([]api.Type, 400)}}}, "written small": twice,
	} {
		testKindless(t, name, p, x, right, api.ErrForm)
		x.Kind = api.TypeTuple
		testKindless(t, name+", a tuple", p, x, right, types.Check(x))
	}
}

// testKindless asks each function for the error of a type that is claimed for the second expression of the one method of a program.
func testKindless(t *testing.T, name string, p []api.Entity, x, right api.Type, want api.Errno) {
	t.Helper()
	c := certificate(body(0, 0, right, x))
	fault := check.Fault{Path: []int{0}}
	if f, e := Body(p, c.Bodies[0]); e != want || !same(f, fault) {
		t.Errorf("Body, %s: error %d at %v", name, e, f)
	}
	if f, e := Verify(p, c); e != want || !same(f, fault) {
		t.Errorf("Verify, %s: error %d at %v", name, e, f)
	}
	if s, e := Text(c); e != want || s != "" {
		t.Errorf("Text, %s: %q, error %d", name, s, e)
	}
	if d, e := Weaker(certificate(body(0, 0, right, right)), 0, 1, x); e != want || len(d.Bodies) > 0 {
		t.Errorf("Weaker, %s: error %d", name, e)
	}
}
