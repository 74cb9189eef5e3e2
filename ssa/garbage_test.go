package ssa_test

import (
	"testing"

	"hackamore/api"
	"hackamore/internal/flows"
	"hackamore/internal/sample"
	. "hackamore/ssa"
)

// TestGarbage: with whatever form, all functions end, and have nothing but an error if there is one.
func TestGarbage(t *testing.T) {
	right := 0
	for seed := range 3000 {
		pick := sample.Source(uint64(seed))
		m := &flows.Maker{Pick: pick, Variables: true, Effects: true}
		f, g := m.Garbage(), m.Garbage()
		_, want := CheckFunc(f)
		preds, e1 := Preds(f)
		order, e2 := Order(f)
		up, e3 := Dominators(f)
		is, e4 := Dominates(f, 0, 0)
		frontier, e5 := Frontier(f)
		heads, blocks, e6 := Loops(f)
		live, e7 := Live(f)
		uses, e8 := Uses(f)
		for _, e := range []api.Errno{e1, e2, e3, e4, e5, e6, e7, e8} {
			if e != want {
				t.Fatalf("seed %d: error %d, not %d", seed, e, want)
			}
		}
		promoted, e9 := Promote(f)
		cleaned, e10 := Clean(f)
		if want != api.OK && len(preds)+len(order)+len(up)+len(frontier)+len(heads)+len(blocks)+len(live)+len(uses)+len(promoted.Blocks) > 0 || is != (want == api.OK) {
			t.Errorf("seed %d: results with an error", seed)
		}
		for _, x := range []struct {
			f Func
			e api.Errno
		}{{promoted, e9}, {cleaned, e10}} {
			if _, e := CheckFunc(x.f); x.e == api.OK && e != api.OK || x.e != api.OK && len(x.f.Blocks) > 0 {
				t.Errorf("seed %d: not right", seed)
			}
		}
		if want == api.OK {
			right++
			if e10 != api.OK || !Equal(f, cleaned) {
				t.Errorf("seed %d: Clean: error %d", seed, e10)
			}
		}
		if Equal(f, g) != Equal(g, f) {
			t.Errorf("seed %d: Equal", seed)
		}
		Check(Program{Funcs: []Func{f, g}})
		if s, e := Print([]Func{f, g}); e == api.OK {
			if l, n, e := Parse(s); e != api.OK || n != 0 || !Equal(l[0], f) || !Equal(l[1], g) {
				t.Errorf("seed %d: Parse: error %d", seed, e)
			}
		}
	}
	if right < 300 || right > 2700 {
		t.Errorf("%d are right", right)
	}
}
