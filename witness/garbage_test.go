package witness_test

import (
	"testing"

	"hackamore/api"
	"hackamore/internal/flows"
	"hackamore/internal/sample"
	"hackamore/optimize"
	"hackamore/ssa"
	. "hackamore/witness"
)

// TestGarbage: with whatever programs and steps, all functions end, and what they return is right.
func TestGarbage(t *testing.T) {
	taken := 0
	for seed := range 3000 {
		pick := sample.Source(uint64(seed))
		m := &flows.Maker{Pick: pick, Effects: true, Direct: map[string]int{"f": 1}}
		p := program(m.Garbage())
		if seed%2 == 0 {
			p = program(m.Func("f", 1, 1+pick(5), 1+pick(5)))
		}
		var l []optimize.Step
		if all := steps(p, 4, 5, 6, 9); len(all) > 0 {
			l = append(l, all[pick(len(all))], all[pick(len(all))])
		}
		for range 4 {
			l = append(l, optimize.Step{Kind: pick(13) - 1, Func: pick(3) - 1, A: pick(20) - 1, B: pick(4) - 1})
		}
		_, want := ssa.Check(p)
		for _, s := range l {
			q, e := Apply(p, s)
			if _, right := ssa.Check(q); right != api.OK || want != api.OK && e != want {
				t.Errorf("seed %d: %v: error %d", seed, s, e)
			}
			if e == api.OK {
				taken++
			}
		}
		if n, e := Check(p, p, l); e == api.OK && n != 0 || want != api.OK && (n != 0 || e != want) {
			t.Errorf("seed %d: %d, error %d", seed, n, e)
		}
		if _, e := Targets(p, api.Type{Kind: pick(9)}, "m"); want != api.OK && e != want {
			t.Errorf("seed %d: Targets: error %d", seed, e)
		}
		Escapes(p.Funcs[0], pick(20)-2)
		for pass := range optimize.Passes {
			q, steps, e := optimize.Run(p, []int{pass + 1})
			if n, e2 := Check(p, q, steps); e != want || e2 != want {
				t.Errorf("seed %d: the pass %d: error %d, %d at %d", seed, pass+1, e, e2, n)
			}
		}
	}
	if taken < 20 {
		t.Errorf("%d steps", taken)
	}
}
