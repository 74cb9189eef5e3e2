package lower_test

import (
	"slices"
	"testing"

	"hackamore/api"
	"hackamore/internal/flows"
	"hackamore/internal/pony"
	"hackamore/internal/sample"
	. "hackamore/lower"
	"hackamore/meaning"
	"hackamore/ssa"
	"hackamore/world"
)

// TestGarbage: functions that have nothing to do with the program, and programs of any form.
func TestGarbage(t *testing.T) {
	p := pony.Program(acts)
	ends := map[int]int{}
	for seed := range 600 {
		pick := sample.Source(uint64(seed))
		m := &flows.Maker{Pick: pick, Variables: true, Effects: true, Objects: seed%2 == 0, Direct: map[string]int{"main.Main.create": 2}}
		f := m.Garbage()
		if seed%3 > 0 {
			f = m.Func("main.Main.create", 2, 1+pick(5), 1+pick(6))
		}
		l := ssa.Program{Funcs: []ssa.Func{f}}
		s, end := Run(l, p, nil, []int{pick(5)}, 2000)
		if e := world.Check(s); e != api.OK {
			t.Errorf("seed %d: the state is not right: error %d", seed, e)
		}
		if _, e := ssa.Check(l); (e != api.OK) != (end == meaning.End{Kind: meaning.Stuck, Actor: -1, Code: ErrLower}) {
			t.Errorf("seed %d: error %d, but %v", seed, e, end)
		}
		ends[end.Kind]++
	}
	if ends[meaning.Rest] < 10 || ends[meaning.Stuck] < 100 || ends[meaning.Fuel] < 10 {
		t.Errorf("%v", ends)
	}
	for seed := range 100 {
		m := sample.ProgramMaker{Pick: sample.Source(uint64(seed))}
		q := append(slices.Clone(p), m.Garbage()...)
		f, e := Lower(q)
		if _, right := ssa.Check(f); right != api.OK || e != api.OK && len(f.Funcs) > 0 {
			t.Errorf("seed %d: error %d", seed, e)
		}
		if e == api.OK {
			Run(f, q, nil, nil, 1000)
		}
		for range 20 {
			body := m.Expr(4)
			if f, e := Method(change(p, "main.Act", "go", body), "main.Act", "go"); e == api.OK {
				if _, e := ssa.Promote(f); e != api.OK {
					t.Errorf("seed %d: Promote: error %d", seed, e)
				}
			}
		}
	}
}
