package meaning_test

import (
	"testing"

	"hackamore/api"
	"hackamore/check"
	"hackamore/internal/actors"
	"hackamore/internal/sample"
	. "hackamore/meaning"
	"hackamore/world"
)

// TestChecked checks P18.6: a checked program is never stuck, and has no race; and that programs which are not checked would have been told apart.
func TestChecked(t *testing.T) {
	races, stuck, size, paths := 0, 0, 0, 0
	sent := map[string]int{}
	for seed := range 90 {
		m := &actors.Maker{Pick: sample.Source(uint64(seed))}
		isChecked := seed%3 > 0
		p := m.Program(isChecked)
		if _, f, e := check.Check(p); isChecked && e != api.OK {
			t.Fatalf("error %d at %v", e, f)
		}
		for range 4 {
			w, e := world.New(p, nil)
			if e != api.OK {
				t.Fatal(e)
			}
			for range 60 {
				_, end, ok := Step(w, m.Pick(100), 3000)
				if !ok || end.Kind == Fuel {
					break
				}
				a, b, race := w.Race()
				if isChecked && (race || end.Kind == Stuck) {
					t.Fatalf("seed %d: %v, a race: %v (%v and %v)\n%s", seed, end, race, a, b, w.Dump())
				}
				if race {
					races++
				}
				if end.Kind == Stuck {
					stuck++
					break
				}
				if isChecked {
					size += len(w.State().Cells)
					paths += len(w.Paths())
				}
			}
			if e := world.Check(w.State()); e != api.OK {
				t.Fatalf("the state is not right: %d", e)
			}
			for _, x := range w.State().Trace {
				if isChecked {
					sent[x.Name]++
				}
			}
		}
	}
	if races == 0 || stuck == 0 || size < 1000 || paths < 1000 {
		t.Errorf("%d races, %d stuck, %d objects, %d paths", races, stuck, size, paths)
	}
	t.Logf("%d races, %d stuck, %d objects, %d paths, %v", races, stuck, size, paths, sent)
}
