package ssa_test

import (
	"slices"
	"testing"

	"hackamore/api"
	"hackamore/internal/flows"
	. "hackamore/ssa"
)

func TestGraphExamples(t *testing.T) {
	loop := fn(1, block(jump(1)), block(branch(0, 2, 4)), block(branch(0, 3, 1)), block(jump(1)), block(branch(0, 4, 5)), block(giveBack(0)))
	for i, c := range []struct {
		f                                                  Func
		preds, order, dominators, frontier, heads, inLoops string
	}{
		{diamond(), "; 0; 0; 1 2", "0 2 1 3", "-1 0 0 0", "; 3; 3; ", "", ""},
		{loop, "; 0 2 3; 1; 2; 1 4; 4", "0 1 4 5 2 3", "-1 0 1 2 1 4", "; 1; 1; 1; 4; ", "1 4", "1 2 3; 4"},
		{fn(1, block(branch(0, 1, 1)), block(giveBack(0))), "; 0 0", "0 1", "-1 0", "; ", "", ""},
		{fn(1, block(giveBack(0))), "", "0", "-1", "", "", ""},
		{fn(1, block(branch(0, 1, 2)), block(branch(0, 2, 3)), block(branch(0, 1, 3)), block(giveBack(0))), "; 0 2; 0 1; 1 2", "0 1 2 3", "-1 0 0 0", "; 2 3; 1 3; ", "", ""},
	} {
		preds, _ := Preds(c.f)
		order, _ := Order(c.f)
		dominators, _ := Dominators(c.f)
		frontier, _ := Frontier(c.f)
		heads, blocks, e := Loops(c.f)
		got := []string{listsText(preds), numbersText(order), numbersText(dominators), listsText(frontier), numbersText(heads), listsText(blocks)}
		if want := []string{c.preds, c.order, c.dominators, c.frontier, c.heads, c.inLoops}; e != api.OK || !slices.Equal(got, want) {
			t.Errorf("%d: %q, not %q", i, got, want)
		}
	}
	for _, c := range []struct {
		a, b int
		want bool
		e    api.Errno
	}{{0, 3, true, 0}, {1, 3, false, 0}, {3, 3, true, 0}, {3, 0, false, 0}, {-1, 0, false, api.ErrNone}, {0, 4, false, api.ErrNone}, {4, 0, false, api.ErrNone}} {
		if got, e := Dominates(diamond(), c.a, c.b); got != c.want || e != c.e {
			t.Errorf("Dominates %d %d: %v, error %d", c.a, c.b, got, e)
		}
	}
}

// TestGraphs compares what the graph tells with what the terms say, and checks P19.2 and P19.3.
func TestGraphs(t *testing.T) {
	for seed, f := range chances(300, false) {
		l := f.Blocks
		if fault, e := CheckFunc(f); e != api.OK {
			t.Fatalf("seed %d: error %d at %v", seed, e, fault)
		}
		wanted := flows.Preds(l)
		if preds, _ := Preds(f); listsText(preds) != listsText(wanted) {
			t.Errorf("seed %d: preds %v", seed, preds)
		}
		dom := func(a, b int) bool { return flows.Dominates(l, a, b) }
		up, _ := Dominators(f)
		frontier, _ := Frontier(f)
		for a := range l {
			best := -1
			var ahead []int
			for b := range l {
				if got, e := Dominates(f, a, b); e != api.OK || got != dom(a, b) {
					t.Fatalf("seed %d: Dominates %d %d: %v", seed, a, b, got)
				}
				if b != a && dom(b, a) && (best < 0 || dom(best, b)) {
					best = b
				}
				if (a == b || !dom(a, b)) && slices.ContainsFunc(wanted[b], func(p int) bool { return dom(a, p) }) {
					ahead = append(ahead, b)
				}
			}
			if up[a] != best || numbersText(frontier[a]) != numbersText(ahead) {
				t.Fatalf("seed %d: block %d: up %d, not %d; frontier %v, not %v", seed, a, up[a], best, frontier[a], ahead)
			}
		}
		checkOrder(t, f, up)
		checkLoops(t, f, wanted)
	}
}

// TestNumbers: operations and ends have the numbers of the tables.
func TestNumbers(t *testing.T) {
	if Const != 1 || Phi != 3 || Make != 8 || Native != 11 || Send != 13 || Fits != 17 || OpCount != 17 || Jump != 1 || Try != 5 || Stuck != 6 {
		t.Error("other numbers")
	}
}

// isCircleFree reports whether blocks have no circles but by edges that lead to a block which dominates their beginning.
func isCircleFree(f Func) bool {
	state := map[int]int{} // 1: on the way, 2: done
	var walk func(b int) bool
	walk = func(b int) bool {
		state[b] = 1
		for _, to := range f.Blocks[b].End.To {
			if flows.Dominates(f.Blocks, to, b) {
				continue
			}
			if state[to] == 1 || state[to] == 0 && !walk(to) {
				return false
			}
		}
		state[b] = 2
		return true
	}
	return walk(0)
}

// TestBackwards: an edge that does not go forward in Order leads to the head of a loop, which dominates its beginning, if there are no other circles.
func TestBackwards(t *testing.T) {
	seen := 0
	for seed, f := range chances(300, false) {
		if !isCircleFree(f) {
			continue
		}
		order, _ := Order(f)
		heads, _, _ := Loops(f)
		for b, x := range f.Blocks {
			for _, to := range x.End.To {
				if slices.Index(order, to) > slices.Index(order, b) {
					continue
				}
				seen++
				if dominates, _ := Dominates(f, to, b); !dominates || !slices.Contains(heads, to) {
					t.Errorf("seed %d: the edge from %d to %d", seed, b, to)
				}
			}
		}
	}
	if seen < 50 {
		t.Errorf("%d edges", seen)
	}
}

// checkOrder compares Order with a walk, and asks that each block stands behind its dominator.
func checkOrder(t *testing.T, f Func, up []int) {
	var post []int
	seen := map[int]bool{0: true}
	var walk func(b int)
	walk = func(b int) {
		for _, to := range f.Blocks[b].End.To {
			if !seen[to] {
				seen[to] = true
				walk(to)
			}
		}
		post = append(post, b)
	}
	walk(0)
	slices.Reverse(post)
	order, e := Order(f)
	if e != api.OK || !slices.Equal(order, post) {
		t.Errorf("order %v, not %v", order, post)
	}
	for b, a := range up {
		if a >= 0 && slices.Index(order, a) >= slices.Index(order, b) {
			t.Errorf("order %v: %d ahead of %d", order, b, a)
		}
	}
}

func checkLoops(t *testing.T, f Func, preds [][]int) {
	heads, blocks, e := Loops(f)
	if e != api.OK {
		t.Fatalf("Loops: error %d", e)
	}
	var wantHeads []int
	var want [][]int
	for h := range f.Blocks {
		var ends []int
		for _, p := range preds[h] {
			if flows.Dominates(f.Blocks, h, p) {
				ends = append(ends, p)
			}
		}
		if ends == nil {
			continue
		}
		wantHeads = append(wantHeads, h)
		var in []int
		for b := range f.Blocks {
			reaches := func(p int) bool { return b != h && flows.Reaches(f.Blocks, b, h)[p] }
			if b == h || slices.ContainsFunc(ends, reaches) {
				in = append(in, b)
			}
		}
		want = append(want, in)
	}
	if !slices.Equal(heads, wantHeads) || listsText(blocks) != listsText(want) {
		t.Errorf("loops %v %v, not %v %v", heads, blocks, wantHeads, want)
	}
}

// isNeeded follows the ways from the beginning of a block to a use of a value on which it is not made.
func isNeeded(f Func, preds [][]int, block, value int) bool {
	seen := map[int]bool{}
	var from func(b int) bool
	from = func(b int) bool {
		if seen[b] {
			return false
		}
		seen[b] = true
		for _, p := range preds[b] {
			if end := f.Blocks[p].End; end.Kind == Try && end.To[0] == b && end.Call.Result == value {
				return false
			}
		}
		for _, x := range f.Blocks[b].Ins {
			if x.Op == Phi {
				if x.Result == value {
					return false
				}
				continue
			}
			if slices.Contains(x.Args, value) {
				return true
			}
			if x.Result == value {
				return false
			}
		}
		end := f.Blocks[b].End
		if slices.Contains(end.Args, value) || slices.Contains(end.Call.Args, value) {
			return true
		}
		for _, to := range end.To {
			for i, p := range preds[to] {
				for _, x := range f.Blocks[to].Ins {
					if p == b && x.Op == Phi && x.Args[i] == value {
						return true
					}
				}
			}
			if from(to) {
				return true
			}
		}
		return false
	}
	return from(block)
}

// TestLive compares Live and Uses with what the chapter says, and checks P19.4.
func TestLive(t *testing.T) {
	for seed, f := range chances(150, true) {
		live, e := Live(f)
		uses, e2 := Uses(f)
		if e != api.OK || e2 != api.OK {
			t.Fatalf("seed %d: errors %d %d", seed, e, e2)
		}
		counted := slices.Repeat([]int{0}, len(uses))
		greatest := len(f.Params) - 1
		count := func(x Ins) {
			greatest = max(greatest, x.Result)
			for _, a := range x.Args {
				counted[a]++
			}
		}
		preds := flows.Preds(f.Blocks)
		for b, x := range f.Blocks {
			for v := range uses {
				if got, want := slices.Contains(live[b], v), isNeeded(f, preds, b, v); got != want {
					t.Fatalf("seed %d: value %d at the block %d: %v", seed, v, b, got)
				}
			}
			if !slices.IsSorted(live[b]) {
				t.Errorf("seed %d: %v", seed, live[b])
			}
			for _, y := range append([]Ins{x.End.Call, {Args: x.End.Args}}, x.Ins...) {
				count(y)
			}
		}
		if len(uses) != greatest+1 || !slices.Equal(uses, counted) {
			t.Errorf("seed %d: uses %v, not %v", seed, uses, counted)
		}
		if slices.ContainsFunc(live[0], func(v int) bool { return v >= len(f.Params) }) {
			t.Errorf("seed %d: live at the beginning: %v", seed, live[0])
		}
	}
	f := fn(3, block(branch(0, 1, 1)), block(try(named(Call, 9, "m", 1), 2, 3), ins(Phi, 7, 0, 1)), block(giveBack(9)), block(giveBack(7)))
	live, _ := Live(f)
	uses, _ := Uses(f)
	if listsText(live) != "0 1; 1; ; 7" || numbersText(uses) != "2 2 0 0 0 0 0 1 0 1" {
		t.Errorf("%v %v", live, uses)
	}
	if uses, e := Uses(fn(0, block(End{Kind: Error}))); e != api.OK || len(uses) != 0 {
		t.Errorf("%v", uses)
	}
}
