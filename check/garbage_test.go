package check_test

import (
	"reflect"
	"testing"

	"hackamore/api"
	. "hackamore/check"
	"hackamore/internal/sample"
	"hackamore/names"
	"hackamore/types"
)

// TestGarbage: P1 and P2: for programs, contexts, expressions and types of any form there is a result, again the same one; with an error
// there is nothing else.
func TestGarbage(t *testing.T) {
	pick := sample.Source(11)
	m := sample.ProgramMaker{Pick: pick, Generic: true}
	any := sample.TypeMaker{Pick: pick}
	base := cells()
	count := map[api.Errno]int{}
	for n := range 3000 {
		p := m.Garbage()
		if n%3 == 0 {
			p = base
		}
		c, f, e := Check(p)
		c2, f2, e2 := Check(p)
		if e != e2 || !sameFault(f, f2) || !reflect.DeepEqual(c, c2) || e != api.OK && len(c.Bodies) > 0 || e == api.OK && !sameFault(f, Fault{}) {
			t.Fatalf("Check: error %d at %v, then %d at %v", e, f, e2, f2)
		}
		i := pick(len(p)+2) - 1
		j := pick(4) - 1
		b, f, e := Method(p, i, j)
		if e != api.OK && (len(b.Types) > 0 || b.Entity != 0 || b.Method != 0) || e == api.OK && !sameFault(f, Fault{}) {
			t.Fatalf("Method: error %d at %v, %v", e, f, b)
		}
		x := m.Expr(3)
		if path, e := Shape(x); (e == api.OK || e == api.ErrSize) && len(path) > 0 {
			t.Fatalf("Shape: error %d at %v", e, path)
		}
		if n%2 == 0 {
			x = right()[pick(len(right()))]
		}
		context := Context{Entity: i, Method: j, Locals: []Local{{Name: "x", Type: any.Any(2), Region: pick(3)}, {Name: "p0", Type: anyType(any, pick)}}, Regions: []int{1, 2}[:pick(3)]}
		var kids []api.Type
		for range x.Kids {
			kids = append(kids, anyType(any, pick))
		}
		got, e := Rule(p, context, x, kids)
		again, e2 := Rule(p, context, x, kids)
		count[e]++
		if e != e2 || !reflect.DeepEqual(got, again) || e != api.OK && !reflect.DeepEqual(got, api.Type{}) {
			t.Fatalf("Rule: error %d, then %d", e, e2)
		}
		if n%3 == 0 && !names.Equal(p, base) {
			t.Fatal("the program was changed")
		}
		Claims(p, anyType(any, pick), anyType(any, pick))
		Begin(p, i, j)
	}
	if count[api.OK] < 100 {
		t.Errorf("%v", count)
	}
}

// TestTwiceTypes: types that are written small, but are large.
func TestTwiceTypes(t *testing.T) {
	large := typ("U8 val")
	for range 60 {
		large = api.Type{Kind: api.TypeTuple, Args: []api.Type{large, large}}
	}
	p := cells()
	i, j := at(t, p, "main.Cell", "get")
	for _, x := range right() {
		var kids []api.Type
		for range x.Kids {
			kids = append(kids, large)
		}
		Rule(p, Context{Entity: i, Method: j, Locals: []Local{{Name: "x", Type: large}}}, x, kids)
	}
	if Claims(p, large, large) || types.Check(large) != api.ErrSize {
		t.Error("a claim of a type that is too large holds")
	}
}

// anyType returns a type that is right, or of any form.
func anyType(m sample.TypeMaker, pick func(int) int) api.Type {
	if pick(3) == 0 {
		return m.Any(2)
	}
	return typs("", "U8 val", "Bool val", "main.Cell ref", "main.Cell iso^", "(main.Dog ref | None val)", "(U8 val, main.Cell trn)", "main.Sound box", "main.Act tag")[pick(9)]
}
