package check_test

import (
	"slices"
	"strconv"
	"strings"
	"testing"
	"time"

	"hackamore/api"
	"hackamore/cap"
	. "hackamore/check"
	"hackamore/internal/sample"
	"hackamore/subtype"
	"hackamore/types"
)

func TestClaims(t *testing.T) {
	p := cells()
	for _, c := range []struct {
		operand, claim string
		want           bool
	}{
		{"main.Cell iso", "main.Cell iso", true}, {"main.Cell iso!", "main.Cell iso", false}, {"main.Cell iso!", "main.Cell tag", true}, {"main.Cell iso^", "main.Cell ref", true}, {"main.Cell ref", "main.Cell val", false},
		{"(main.Cell iso! | None val)", "main.Cell iso", false}, {"(main.Cell iso! | None val)", "None val", true}, {"(main.Cell iso! | None val)", "None iso", false}, {"(main.Cell iso! | None val)", "main.Dog iso", true}, {"main.Cell box", "main.Dog ref", true},
		{"main.Sound box", "main.Dog ref", false}, {"main.Sound ref", "main.Dog ref", true}, {"main.Sound box", "main.Cell ref", true}, {"main.Dog box", "main.Sound ref", false}, {"main.Dog ref", "main.Sound box", true}, {"main.Named box", "main.Sound ref", false}, {"main.Runs box", "main.Named ref", true}, {"Any tag", "Any ref", false},
		{"Any val", "main.Cell ref", false}, {"main.Nothing tag", "main.Cell ref", true}, {"main.Nothing tag", "main.Nothing ref", true}, {"main.Cell[U8 val] tag", "main.Cell ref", true},
		{"(main.Sound ref & main.Named ref)", "main.Dog ref", false}, {"(main.Sound ref & main.Runs ref)", "main.Dog ref", true}, {"main.Dog ref", "(main.Sound ref & main.Named ref)", false}, {"(main.Dog ref & main.Cell ref)", "main.Dog ref", true},
		{"($A | U8 val)", "U8 val", true}, {"$A", "U8 val", true}, {"this ref", "main.Cell val", true}, {"(this -> main.Dog box)", "main.Dog ref", true},

		{"(U8 val, main.Dog ref)", "(U8 val, main.Dog box)", true}, {"(U8 val, main.Dog box)", "(U8 val, main.Dog ref)", false}, {"(U8 val, main.Dog box)", "(U16 val, main.Dog ref)", true}, {"(U8 val, main.Dog box)", "(U8 val, main.Cat ref)", true}, {"(U8 val, main.Dog box)", "(U8 val, main.Dog ref, U8 val)", true},
		{"(U8 val, (U8 val, main.Dog box))", "(U8 val, (U8 val, main.Dog ref))", false}, {"(U8 val, (U16 val, main.Dog box))", "(U8 val, (U8 val, main.Dog ref))", true}, {"(main.Dog box, U8 val)", "((U8 val, U8 val), U8 val)", true}, {"((U8 val, U8 val), main.Dog box)", "(U8 val, main.Dog ref)", true},
		{"(U8 val, U8 val)", "U8 val", true}, {"U8 val", "(U8 val, U8 val)", true}, {"Any tag", "(U8 val, U8 val)", true}, {"((U8 val, main.Dog box) | None val)", "(U8 val, main.Dog ref)", false}, {"((U8 val, main.Dog box) | None val)", "None val", true},
		{"(U8 val, (main.Dog box | U8 val))", "(U8 val, main.Dog ref)", false}, {"(U8 val, (main.Dog ref | U8 val))", "(U8 val, main.Dog box)", true}, {"((main.Cat val | U8 val), main.Dog box)", "((main.Cell ref | U16 val), main.Dog ref)", true}, {"((main.Cat val | U8 val), main.Dog box)", "((main.Cell ref | U8 val), main.Dog ref)", false},
		{"(main.Dog box, (U16 val, U8 val))", "(main.Dog ref, (U8 val, U8 val))", true}, {"(main.Dog box, (U8 val, U16 val))", "(main.Dog ref, (U8 val, U8 val))", true}, {"(main.Dog box, (U8 val, U8 val))", "(main.Dog ref, (U8 val, U8 val))", false}, // what keeps them apart may stand within
		{"(main.Dog box, (U8 val, U8 val))", "(main.Dog ref, (U8 val, U8 val, U8 val))", true}, {"(main.Dog box, (U8 val, U8 val, U8 val))", "(main.Dog ref, (U8 val, U8 val))", true}, {"(main.Dog box, (U8 val, U8 val))", "(main.Dog ref, U8 val)", true}, {"(main.Dog box, U8 val)", "(main.Dog ref, (U8 val, U8 val))", true},
		{"((U8 val, U8 val) & (U8 val, U8 val))", "(U8 val, U8 val)", false}, {"(U8 val, U8 val)", "((U8 val, U8 val) & Any tag)", false}, {"((U8 val, U8 val) & Any tag)", "U8 val", true}, {"((U8 val, U8 val) & Any tag)", "((U8 val, U8 val) & Any tag)", false}, {"(((U8 val, U8 val) | U8 val) & Any tag)", "U8 ref", false},
		{"(Any tag & ((U8 val, U8 val) | U8 val))", "(U8 val, U8 val)", false}, {"(U8 val & (U8 val, U8 val))", "U8 ref", true}, {"main.Dog ref", "(main.Sound box & main.Named box)", false},
	} {
		if Claims(p, typ(c.operand), typ(c.claim)) != c.want {
			t.Errorf("%s, %s: not %v", c.operand, c.claim, c.want)
		}
	}
	wrong := api.Type{Kind: api.TypeName, Name: "U8"}
	if Claims(p, wrong, typ("U8 val")) || Claims(p, typ("U8 val"), wrong) || Claims(p, api.Type{}, typ("U8 val")) || Claims(nil, typ("U8 val"), api.Type{}) {
		t.Error("a claim of a type with an error holds")
	}
	two := []api.Entity{{Kind: api.Interface, Name: "a.I", Cap: api.Ref}, {Kind: api.Interface, Name: "a.J", Cap: api.Ref}}
	if !Claims(two, typ("a.I box"), typ("a.J ref")) { // no concrete entity, nothing in common
		t.Error("interfaces alone have something in common")
	}
	full := make([]api.Entity, api.MaxUnits-2, api.MaxUnits)
	if full = append(full, two[0], api.Entity{Kind: api.Class, Name: "a.C", Cap: api.Ref}); Claims(full, typ("a.I box"), typ("a.C ref")) {
		t.Error("of as many entities as there may be the last one does not count")
	}
	if !Claims(nil, typ("U8 val"), typ("U8 ref")) || !Claims(slices.Repeat(p, 10), typ("U8 val"), typ("U8 ref")) || Claims(nil, typ("((U8 val, U8 val) & Any tag)"), typ("((U8 val, U8 val) & Any tag)")) {
		t.Error("where there are no entities, or too many, nothing is in common")
	}
}

// alternatives, taken, common and claims are as the chapter says them, word by word.
func alternativesOf(t api.Type) []api.Type {
	if t.Kind != api.TypeUnion {
		return []api.Type{t}
	}
	var l []api.Type
	for _, a := range t.Args {
		l = append(l, alternativesOf(a)...)
	}
	return l
}

func takes(p []api.Entity, t api.Type, e api.Entity) bool {
	one := func(a api.Type) bool { return takes(p, a, e) }
	switch t.Kind {
	case api.TypeUnion:
		return slices.ContainsFunc(t.Args, one)
	case api.TypeBoth:
		return !slices.ContainsFunc(t.Args, func(a api.Type) bool { return !one(a) })
	}
	return subtype.Bare(p, types.Named(e.Name, api.Ref, nil), t)
}

func inCommon(p []api.Entity, s, t api.Type) bool {
	for _, x := range alternativesOf(s) {
		for _, y := range alternativesOf(t) {
			if x.Kind == api.TypeTuple && y.Kind == api.TypeTuple && len(x.Args) == len(y.Args) {
				all := true
				for i := range x.Args {
					all = all && inCommon(p, x.Args[i], y.Args[i])
				}
				if all {
					return true
				}
				continue
			}
			for _, e := range p {
				if e.Kind >= api.Class && e.Kind <= api.Primitive && takes(p, x, e) && takes(p, y, e) {
					return true
				}
			}
		}
	}
	return false
}

func tupled(t api.Type) bool {
	return t.Kind == api.TypeTuple || (t.Kind == api.TypeUnion || t.Kind == api.TypeBoth) && slices.ContainsFunc(t.Args, tupled)
}

func claimed(p []api.Entity, o, c api.Type) bool {
	for _, x := range alternativesOf(o) {
		for _, y := range alternativesOf(c) {
			a, b := x.Kind == api.TypeTuple, y.Kind == api.TypeTuple
			ok := false
			switch {
			case a && b && len(x.Args) == len(y.Args):
				all, apart := true, false
				for i := range x.Args {
					all = all && claimed(p, x.Args[i], y.Args[i])
					apart = apart || !inCommon(p, x.Args[i], y.Args[i])
				}
				ok = all || apart
			case a && b:
				ok = true
			case tupled(x) && tupled(y):
			case a || b:
				ok = true
			default:
				ok = !inCommon(p, x, y) || x.Kind == api.TypeName && y.Kind == api.TypeName && cap.Fits(x.Cap, x.Mark, y.Cap, y.Mark)
			}
			if !ok {
				return false
			}
		}
	}
	return true
}

func TestClaimsByChance(t *testing.T) {
	p := cells()
	p = slices.DeleteFunc(p, func(e api.Entity) bool {
		_, isUsed := map[string]bool{"U8": true, "U16": true, "None": true, "Any": true}[e.Name]
		return !isUsed && !strings.HasPrefix(e.Name, "main.")
	})
	pick := sample.Source(7)
	m := sample.TypeMaker{Pick: pick, Self: true, Params: []string{"A"}, Names: map[int][]string{0: {"U8", "None", "Any", "main.Dog", "main.Cat", "main.Sound", "main.Named", "main.Runs", "main.Act", "main.Cell"}, 1: {"main.Cell"}}}
	held := 0
	for range 4000 {
		a, b := m.Type(pick(3)), m.Type(pick(3))
		if pick(3) > 0 {
			b = recapped(a, pick)
		}
		want := types.Check(a) == api.OK && types.Check(b) == api.OK && claimed(p, a, b)
		if want {
			held++
		}
		if got := Claims(p, a, b); got != want {
			t.Fatalf("%s, %s: %v", text(a), text(b), got)
		}
	}
	if held < 500 || held > 3500 {
		t.Errorf("%d of 4000 hold", held)
	}
}

// recapped returns a type in which some names have other capabilities.
func recapped(t api.Type, pick func(int) int) api.Type {
	if t.Kind == api.TypeName && pick(2) == 0 {
		t.Cap = api.Iso + pick(6)
	}
	t.Args = slices.Clone(t.Args)
	for i, a := range t.Args {
		t.Args[i] = recapped(a, pick)
	}
	return t
}

// TestClaimsLarge: large types over many entities take no long time.
func TestClaimsLarge(t *testing.T) {
	var p []api.Entity
	for i := range api.MaxUnits {
		e := api.Entity{Kind: api.Class, Name: "a.C" + strconv.Itoa(i), Cap: api.Ref, Methods: []api.Method{method(api.Fun, "f"+strconv.Itoa(i%40), api.Box, "", noExpr())}}
		if i%3 == 0 {
			e.Kind = api.Interface
		}
		p = append(p, e)
	}
	leaf := func(i int) api.Type { return types.Named("a.C"+strconv.Itoa(i%api.MaxUnits), api.Ref, nil) }
	wide := func(from, n int) api.Type {
		u := api.Type{Kind: api.TypeUnion}
		for i := range n {
			u.Args = append(u.Args, leaf(from+i))
		}
		return u
	}
	nest := func(from int) api.Type {
		t := wide(from, 12)
		for i := range 17 {
			t = api.Type{Kind: api.TypeTuple, Args: []api.Type{wide(from+i, 12), t}}
		}
		return t
	}
	start := time.Now()
	Claims(p, nest(0), nest(0))
	Claims(p, nest(0), nest(5))
	Claims(p, wide(0, 64), wide(60, 64))
	if d := time.Since(start); d > 5*time.Second {
		t.Errorf("%v", d)
	}
}
