package machine

import (
	"testing"

	"hackamore/api"
	"hackamore/code"
	"hackamore/internal/pony"
	"hackamore/meaning"
	"hackamore/world"
)

// TestLose runs code that verify.Check does not take: what a map does not have is lost there, but nothing else.
func TestLose(t *testing.T) {
	listed := func(op, a int, index []int, l ...int) code.Ins {
		return code.Ins{Op: op, A: a, B: len(l), Index: index, Raised: -1, List: l}
	}
	plain := func(op, a, b int) code.Ins { return code.Ins{Op: op, A: a, B: b, Raised: -1} }
	raising := listed(code.Direct, 0, []int{2})
	raising.C, raising.Raised = 1, 3
	p := pony.Program("class Cell\nactor Act\n  new create() => None\nactor Main\n  new create(env: Env) => None\n  fun tag all(c: Cell, a: Act) => None\n")
	for i, safe := range []code.Ins{
		plain(code.Text, 0, 0), plain(code.Make, 0, 0), plain(code.Stack, 0, 0), listed(code.Call, 0, []int{0}, 1), listed(code.Direct, 0, []int{1}, 1), listed(code.Native, 0, []int{0}, 1), listed(code.Spawn, 0, []int{1, 1}), listed(code.Send, 0, []int{1}, 2), raising,
	} {
		words, e := code.Words(safe)
		if e != api.OK {
			t.Fatalf("%d: error %d", i, e)
		}
		same := code.Function{Name: "same", Params: 1, Classes: []int{code.Any}, Words: []uint32{code.Return}}
		for back := range 3 { // which register is given back
			for live := range 4 {
				f := code.Function{Name: "f", Params: 3, Classes: []int{code.Any, code.Any, code.Any, code.Num}, Words: append(words[:len(words):len(words)], uint32(code.Return|back<<8)), Maps: []code.Map{{At: 0}}}
				for r := range 2 {
					if live>>r&1 == 1 {
						f.Maps[0].Live = append(f.Maps[0].Live, r+1)
					}
				}
				c := code.Program{Functions: []code.Function{f, same, {Name: "fails", Words: []uint32{code.Raise}}}, Texts: []string{"string", "create"}, Entities: []string{"main.Cell", "main.Act"}, Selectors: []string{"string"}}
				for _, poison := range []bool{false, true} {
					w, e := world.New(p, nil)
					if e != api.OK {
						t.Fatalf("error %d", e)
					}
					w.Make(1, "main.Cell")
					none := api.Value{Kind: api.ValUnit, Name: "None"}
					args := []api.Value{none, none, {Kind: api.ValActor, Lo: 1}}
					if safe.Op == code.Send {
						args[0] = args[2]
					}
					r := newMachine(c, Options{Poison: poison}).newRun(w, 1, 50)
					out := r.outcome(func() result {
						r.begin(0, args)
						return r.whole()
					})
					isLost := poison && (back > 0 && live>>(back-1)&1 == 0 || back == 0 && (safe.Op == code.Send || safe.Raised >= 0))
					if isLost != (out.Kind == meaning.Wrong && out.Code == world.ErrUnset) || !isLost && out.Kind != meaning.Value {
						t.Errorf("%d: the register %d, with the map %v and poison %v: %v", i, back, f.Maps[0].Live, poison, out)
					}
				}
			}
		}
	}
}
