package optimize_test

import (
	"reflect"
	"slices"
	"strconv"
	"strings"
	"testing"

	"hackamore/api"
	"hackamore/check"
	"hackamore/internal/flows"
	"hackamore/internal/pony"
	"hackamore/internal/sample"
	"hackamore/lower"
	"hackamore/meaning"
	"hackamore/num"
	. "hackamore/optimize"
	"hackamore/ssa"
	"hackamore/witness"
	"hackamore/world"
)

// kinds returns the kinds of steps that a pass makes.
func kinds(pass int) []int {
	return [][]int{nil, {StepCopy, StepDrop}, {StepFold, StepBranch}, {StepCommon}, {StepDrop, StepJoin}, {StepInline}, {StepDirect}, {StepStack}, {StepField}}[pass]
}

func text(t *testing.T, p ssa.Program) string {
	s, e := ssa.Print(p.Funcs)
	if e != api.OK {
		t.Fatalf("Print: error %d", e)
	}
	return s
}

// chance returns a program by chance: some functions, which call one another.
func chance(pick func(int) int, seed int) ssa.Program {
	m := &flows.Maker{Pick: pick, Effects: seed%4 > 0, Objects: seed%3 == 0, Variables: seed%7 == 0, Direct: map[string]int{"f0": 2, "f1": 1, "f2": 1, "f3": 1}}
	p := ssa.Program{}
	for i := range 4 {
		name := "f" + strconv.Itoa(i)
		f := m.Func(name, m.Direct[name], 1+pick(6), 1+pick(8))
		if i > 0 && pick(3) > 0 {
			f.Partial = false
			for b := range f.Blocks {
				if f.Blocks[b].End.Kind == ssa.Error {
					f.Blocks[b].End.Kind = ssa.Stuck
				}
			}
		}
		p.Funcs = append(p.Funcs, f)
	}
	return p
}

// possible returns steps of a kind that may be done in a program, if there are any: all that may be are asked of layer 22.
func possible(p ssa.Program, kind int) []Step {
	var l []Step
	try := func(s Step) {
		s.Kind = kind
		if _, e := witness.Apply(p, s); e == api.OK {
			l = append(l, s)
		}
	}
	for n, f := range p.Funcs {
		values := map[int]ssa.Ins{}
		for v := range f.Params {
			values[v] = ssa.Ins{}
		}
		for b, x := range f.Blocks {
			for _, y := range append([]ssa.Ins{x.End.Call}, x.Ins...) {
				if y.Op != 0 {
					values[y.Result] = y
				}
			}
			if kind == StepBranch || kind == StepJoin {
				try(Step{Func: n, A: b})
				try(Step{Func: n, A: b, B: 1})
			}
		}
		for a, x := range values {
			switch kind {
			case StepCopy, StepCommon, StepField:
				if x.Op == 0 || kind == StepField && x.Op != ssa.Get || kind == StepCopy && x.Op != ssa.Phi && x.Op != ssa.Item {
					continue
				}
				for b, y := range values {
					if kind != StepCommon || y.Op == x.Op {
						try(Step{Func: n, A: a, B: b})
					}
				}
			case StepFold:
				for _, lit := range literals(x, values) {
					try(Step{Func: n, A: a, Lit: lit})
				}
			case StepDirect:
				for _, g := range p.Funcs {
					try(Step{Func: n, A: a, Text: g.Name})
				}
			case StepDrop, StepInline, StepStack:
				try(Step{Func: n, A: a})
			}
		}
	}
	return l
}

// literals returns what an instruction may give.
func literals(x ssa.Ins, values map[int]ssa.Ins) []api.Value {
	switch x.Op {
	case ssa.Is:
		return []api.Value{flows.Boolean(true), flows.Boolean(false)}
	case ssa.Native:
		var args []api.Value
		for _, a := range x.Args {
			args = append(args, values[a].Lit)
		}
		typ, method, _ := strings.Cut(x.Text, ".")
		v, _, _ := num.Call(typ, method, args)
		return []api.Value{v}
	}
	return nil
}

// checkRun checks what is promised of a run of passes.
func checkRun(t *testing.T, what string, p ssa.Program, passes []int) (ssa.Program, []Step) {
	t.Helper()
	ahead := text(t, p)
	q, l, e := Run(p, passes)
	if e != api.OK {
		t.Fatalf("%s: error %d", what, e)
	}
	if text(t, p) != ahead {
		t.Fatalf("%s: the program that was handed in is another one", what)
	}
	if n, e := witness.Check(p, q, l); e != api.OK {
		t.Fatalf("%s: passes %v: Check: error %d at %d of %d", what, passes, e, n, len(l))
	}
	if again, l2, _ := Run(p, passes); text(t, again) != text(t, q) || !reflect.DeepEqual(l, l2) {
		t.Errorf("%s: not always the same", what)
	}
	at := 0
	for _, s := range l { // the kinds are those of the passes, pass by pass
		for at < len(passes) && !slices.Contains(kinds(passes[at]), s.Kind) {
			at++
		}
	}
	if at == len(passes) && len(l) > 0 {
		t.Errorf("%s: passes %v: kinds of steps: %v", what, passes, l)
	}
	if !slices.Contains(passes, Inline) && Size(q) > Size(p) {
		t.Errorf("%s: passes %v: the program grows", what, passes)
	}
	return q, l
}

// checkDone checks that no step of a pass may be done any more.
func checkDone(t *testing.T, what string, p ssa.Program, pass int) {
	t.Helper()
	if pass == Inline {
		checkInlined(t, what, p)
		return
	}
	for _, kind := range kinds(pass) {
		if l := possible(p, kind); len(l) > 0 {
			t.Fatalf("%s: behind the pass %d: %v may be done\n%s", what, pass, l[0], text(t, p))
		}
	}
	if q, l, e := Run(p, []int{pass}); e != api.OK || len(l) > 0 || text(t, q) != text(t, p) {
		t.Errorf("%s: the pass %d once more: %v", what, pass, l)
	}
}

func hasDirect(f ssa.Func) bool {
	for _, b := range f.Blocks {
		if b.End.Call.Op == ssa.Direct || slices.ContainsFunc(b.Ins, func(x ssa.Ins) bool { return x.Op == ssa.Direct }) {
			return true
		}
	}
	return false
}

// checkInlined checks that no call of a small function is left.
func checkInlined(t *testing.T, what string, p ssa.Program) {
	t.Helper()
	for _, s := range possible(p, StepInline) {
		f := p.Funcs[s.Func]
		for _, b := range f.Blocks {
			for _, x := range b.Ins {
				if x.Result != s.A {
					continue
				}
				callee := p.Funcs[slices.IndexFunc(p.Funcs, func(g ssa.Func) bool { return g.Name == x.Text })]
				n := Size(ssa.Program{Funcs: []ssa.Func{callee}})
				if n <= 10 && !hasDirect(callee) && Size(ssa.Program{Funcs: []ssa.Func{f}})+n <= 1000 {
					t.Fatalf("%s: a call of %s in %s is left", what, callee.Name, f.Name)
				}
			}
		}
	}
}

// checkPlay checks that two programs do the same.
func checkPlay(t *testing.T, what string, p, q ssa.Program, pick func(int) int) {
	t.Helper()
	for i := range p.Funcs {
		for range 3 {
			args := []int{pick(4), pick(4)}[:len(p.Funcs[i].Params)]
			a, b := flows.Play(p, p.Funcs[i], args), flows.Play(q, q.Funcs[i], args)
			n := min(len(a), len(b))
			if a[len(a)-1] == "cut" || b[len(b)-1] == "cut" {
				a, b = a[:n-1], b[:n-1]
			}
			if !slices.Equal(a, b) {
				t.Fatalf("%s: with %v:\n%q\n%q\n%s\n%s", what, args, a, b, text(t, p), text(t, q))
			}
		}
	}
}

// TestChance checks P21.2, P21.3 and P21.4, and that programs do the same behind passes.
func TestChance(t *testing.T) {
	done := map[int]int{}
	for seed := range 300 {
		pick := sample.Source(uint64(seed))
		p := chance(pick, seed)
		what := "seed " + strconv.Itoa(seed)
		for pass := 1; pass <= Passes; pass++ {
			q, l := checkRun(t, what, p, []int{pass})
			checkDone(t, what, q, pass)
			for _, s := range l {
				done[s.Kind]++
			}
		}
		var passes []int
		for range 1 + pick(8) {
			passes = append(passes, 1+pick(Passes))
		}
		q, _ := checkRun(t, what, p, passes)
		checkDone(t, what, q, passes[len(passes)-1])
		checkPlay(t, what, p, q, pick)
		for level := range 4 {
			q, _ := checkRun(t, what, p, Usual(level))
			checkPlay(t, what, p, q, pick)
		}
	}
	for _, kind := range []int{StepCopy, StepFold, StepCommon, StepDrop, StepBranch, StepJoin, StepInline, StepStack, StepField} {
		if done[kind] < 5 {
			t.Errorf("steps that were done: %v", done)
		}
	}
}

func promoted(t *testing.T, p ssa.Program) ssa.Program {
	out := ssa.Program{Entities: p.Entities}
	for _, f := range p.Funcs {
		g, e := ssa.Promote(f)
		if e != api.OK {
			t.Fatalf("Promote of %s: error %d", f.Name, e)
		}
		out.Funcs = append(out.Funcs, g)
	}
	return out
}

// TestPrograms runs programs of texts behind the passes of all levels.
func TestPrograms(t *testing.T) {
	directs := 0
	for i, s := range pony.Texts() {
		p := pony.Program(s)
		f, e := lower.Lower(p)
		if e != api.OK {
			t.Fatalf("text %d: error %d", i, e)
		}
		f = promoted(t, f)
		for level := range 4 {
			what := "text " + strconv.Itoa(i) + " level " + strconv.Itoa(level)
			g, l := checkRun(t, what, f, Usual(level))
			for _, s := range l {
				if s.Kind == StepDirect {
					directs++
				}
			}
			for seed := range 3 {
				pick := sample.Source(uint64(seed))
				script := []int{pick(9), pick(9), pick(9), pick(9), pick(9), pick(9)}
				a, end := meaning.Run(p, nil, script, api.MaxFuel)
				b, end2 := lower.Run(g, p, nil, script, api.MaxFuel)
				v, _ := world.Load(a)
				w, _ := world.Load(b)
				if end != end2 || !reflect.DeepEqual(a.Output, b.Output) || !reflect.DeepEqual(a.Trace, b.Trace) || v.Dump() != w.Dump() {
					t.Errorf("%s: %v %v: %q %q", what, end, end2, a.Output, b.Output)
				}
			}
		}
		g, _, _ := Run(f, []int{Devirt})
		checkDone(t, "text "+strconv.Itoa(i), ssa.Program{Entities: g.Entities, Funcs: g.Funcs}, Devirt)
	}
	if directs < 50 {
		t.Errorf("%d directs", directs)
	}
}

// TestChecked runs checked programs with bodies by chance behind all passes.
func TestChecked(t *testing.T) {
	p := pony.Program(pony.Cells)
	rests, directs, known := 0, 0, 0
	for seed := range 150 {
		m := pony.BodyMaker{Pick: sample.Source(uint64(seed))}
		q := p
		for _, x := range []string{"main.Act go", "main.Cell get", "main.Cell put", "main.Cell create", "main.Dog m", "main.Main create"} {
			entity, method, _ := strings.Cut(x, " ")
			for range 8 {
				next, i, j := pony.With(q, entity, method, func(x *api.Method) { x.Body = m.Body(*x, 4) })
				if _, _, e := check.Method(next, i, j); e == api.OK {
					q = next
					break
				}
			}
		}
		if _, _, e := check.Check(q); e != api.OK {
			t.Fatalf("seed %d: error %d", seed, e)
		}
		f, e := lower.Lower(q)
		if e != api.OK {
			t.Fatalf("seed %d: Lower: error %d", seed, e)
		}
		g, l := checkRun(t, "seed "+strconv.Itoa(seed), promoted(t, f), Usual(3))
		for _, s := range l {
			if s.Kind == StepDirect {
				directs++
			}
		}
		for range 3 {
			script := []int{m.Pick(9), m.Pick(9), m.Pick(9), m.Pick(9)}
			a, end := meaning.Run(q, nil, script, 3000)
			b, end2 := lower.Run(g, q, nil, script, api.MaxFuel)
			if end.Kind != meaning.Rest {
				continue
			}
			rests++
			known += len(a.Trace)
			v, _ := world.Load(a)
			w, _ := world.Load(b)
			if end != end2 || !reflect.DeepEqual(a.Output, b.Output) || !reflect.DeepEqual(a.Trace, b.Trace) || v.Dump() != w.Dump() {
				t.Errorf("seed %d: %v %v: %q %q", seed, end, end2, a.Output, b.Output)
			}
		}
	}
	if rests < 100 || directs < 100 {
		t.Errorf("%d rest, %d directs, %d sends", rests, directs, known)
	}
}

func ins(op, result int, args ...int) ssa.Ins { return ssa.Ins{Op: op, Result: result, Args: args} }

func block(end ssa.End, l ...ssa.Ins) ssa.Block { return ssa.Block{Ins: l, End: end} }

func back(v int) ssa.End { return ssa.End{Kind: ssa.Return, Args: []int{v}} }

func jump(to int) ssa.End { return ssa.End{Kind: ssa.Jump, To: []int{to}} }

func fn(name string, params int, l ...ssa.Block) ssa.Func {
	return ssa.Func{Name: name, Params: make([]api.Type, params), Blocks: l}
}

func constant(result int, v api.Value) ssa.Ins {
	return ssa.Ins{Op: ssa.Const, Result: result, Lit: v}
}

func u8(n uint64) api.Value { return api.Value{Kind: api.ValNumber + 6, Lo: n} }

func stepsText(l []Step) string {
	var out []string
	for _, s := range l {
		out = append(out, strconv.Itoa(s.Kind)+":"+strconv.Itoa(s.A)+":"+strconv.Itoa(s.B))
	}
	return strings.Join(out, " ")
}

func TestExamples(t *testing.T) {
	add := func(v int) ssa.Ins { return ssa.Ins{Op: ssa.Native, Result: v, Text: "U8.add", Args: []int{0, 1}} }
	sums := ssa.Program{Funcs: []ssa.Func{fn("f", 0, block(back(4), constant(0, u8(1)), constant(1, u8(2)), add(2), add(3), ins(ssa.Tuple, 4, 2, 3)))}}
	p, l, _ := Run(sums, []int{Fold})
	if stepsText(l) != "2:2:0 2:3:0" || l[0].Lit.Lo != 3 || l[1].Lit.Lo != 3 {
		t.Errorf("%v", l)
	}
	if p, l, _ = Run(p, []int{Common}); stepsText(l) != "3:3:2" {
		t.Errorf("%v", l)
	}
	if p, l, _ = Run(p, []int{Dead}); len(l) != 2 || Size(p) != 2 || Size(sums) != 5 {
		t.Errorf("%v", l)
	}
	branches := ssa.Program{Funcs: []ssa.Func{fn("f", 1, block(ssa.End{Kind: ssa.Branch, Args: []int{1}, To: []int{1, 2}}, constant(1, flows.Boolean(true))), block(jump(3)), block(jump(3)), block(back(0)))}}
	if p, l, _ = Run(branches, []int{Fold, Dead}); stepsText(l) != "5:0:0 4:1:0 6:0:0 6:0:0" || len(p.Funcs[0].Blocks) != 1 {
		t.Errorf("%s", stepsText(l))
	}
}

func TestErrors(t *testing.T) {
	good := ssa.Program{Funcs: []ssa.Func{fn("f", 1, block(back(0)))}}
	bad := ssa.Program{Funcs: []ssa.Func{{}}}
	for i, c := range []struct {
		p      ssa.Program
		passes []int
		e      api.Errno
	}{
		{good, nil, 0}, {good, slices.Repeat([]int{Dead}, 20), 0}, {bad, make([]int, 21), api.ErrSize}, {bad, make([]int, 20), api.ErrArg}, {bad, []int{1, 9}, api.ErrArg}, {bad, []int{-1}, api.ErrArg}, {bad, []int{1}, api.ErrSize}, {bad, nil, api.ErrSize}, {ssa.Program{Funcs: []ssa.Func{fn("f", 0, block(back(0)))}}, []int{1}, ssa.ErrUse},
	} {
		p, l, e := Run(c.p, c.passes)
		if e != c.e || len(l) > 0 || e != api.OK && (len(p.Funcs) > 0 || len(p.Entities) > 0) {
			t.Errorf("%d: error %d, not %d", i, e, c.e)
		}
	}
	if p, l, e := Run(ssa.Program{Entities: make([]api.Entity, 3)}, []int{1, 2, 3, 4, 5, 6, 7, 8}); e != api.OK || len(p.Entities) != 3 || len(l) > 0 {
		t.Errorf("%v, error %d", p, e)
	}
	for i, want := range map[int][]int{-5: nil, 0: nil, 1: {1, 2, 4}, 2: {6, 5, 1, 2, 3, 4}, 3: {6, 5, 1, 2, 6, 5, 1, 8, 2, 3, 7, 4}, 4: {6, 5, 1, 2, 6, 5, 1, 8, 2, 3, 7, 4}, 99: {6, 5, 1, 2, 6, 5, 1, 8, 2, 3, 7, 4}} {
		if !slices.Equal(Usual(i), want) {
			t.Errorf("Usual(%d): %v", i, Usual(i))
		}
	}
}

// sized returns a function with so many instructions, each of which is needed.
func sized(name string, n int) ssa.Func {
	f := fn(name, 1, block(back(n)))
	for i := range n {
		f.Blocks[0].Ins = append(f.Blocks[0].Ins, ins(ssa.Is, i+1, i, i))
	}
	return f
}

// TestInline: which functions stand in the place of calls.
func TestInline(t *testing.T) {
	direct := func(v int, name string) ssa.Ins {
		return ssa.Ins{Op: ssa.Direct, Result: v, Text: name, Args: []int{0}}
	}
	calls := func(name string, callees ...string) ssa.Func {
		f := fn(name, 1, block(back(0)))
		for i, c := range callees {
			f.Blocks[0].Ins = append(f.Blocks[0].Ins, direct(i+1, c))
		}
		return f
	}
	left := func(p ssa.Program, passes ...int) int {
		q, _ := checkRun(t, "TestInline", p, passes)
		checkDone(t, "TestInline", q, passes[len(passes)-1])
		n := 0
		for _, b := range q.Funcs[0].Blocks {
			for _, x := range b.Ins {
				if x.Op == ssa.Direct {
					n++
				}
			}
		}
		return n
	}
	of := func(l ...ssa.Func) ssa.Program { return ssa.Program{Funcs: l} }
	partial := sized("g", 2)
	partial.Partial = true
	variables := fn("g", 1, block(back(0), ssa.Ins{Op: ssa.Store, Result: 1, Text: "v", Args: []int{0}}))
	for i, c := range []struct {
		p    ssa.Program
		want int
	}{
		{of(calls("f", "g", "g"), sized("g", 10)), 0}, {of(calls("f", "g"), sized("g", 41)), 1}, {of(calls("f", "g", "h"), calls("g", "h"), sized("h", 3)), 0}, {of(calls("f", "f")), 1}, {of(calls("f", "g"), partial), 1}, {of(calls("f", "g"), variables), 1}, {of(calls("f", "g"), calls("g", "g")), 1}, {of(calls("f", "g"), calls("g", "h"), calls("h", "g")), 1},
		{of(calls("f", "g"), fn("g", 1, block(ssa.End{Kind: ssa.Stuck}))), 1}, {of(calls("f", slices.Repeat([]string{"g"}, 120)...), sized("g", 9)), 120 - 97}, {of(calls("f", slices.Repeat([]string{"g"}, 120)...), fn("g", 1, block(jump(1)), block(jump(2)), block(back(0)))), 120 - 99},
	} {
		if got := left(c.p, Inline); got != c.want {
			t.Errorf("%d: %d calls are left, not %d", i, got, c.want)
		}
	}
	tried := fn("f", 1, block(ssa.End{Kind: ssa.Try, Call: direct(1, "g"), To: []int{1, 2}}), block(back(1)), block(back(0)))
	if q, l, _ := Run(of(tried, sized("g", 2)), []int{Inline}); len(l) > 0 || q.Funcs[0].Blocks[0].End.Kind != ssa.Try {
		t.Errorf("a try: %v", l)
	}
	big := 0
	for _, n := range []int{11, 40} {
		q, _, _ := Run(of(calls("f", "g"), sized("g", n)), []int{Inline})
		big = max(big, Size(ssa.Program{Funcs: q.Funcs[:1]}))
	}
	if big > 42 {
		t.Errorf("%d instructions", big)
	}
}

// TestLarge: a large function takes its time, but not too much.
func TestLarge(t *testing.T) {
	f := fn("f", 1, block(back(3998)))
	f.Blocks[0].Ins = append(f.Blocks[0].Ins, constant(1, u8(1)))
	for i := 2; i < 4000; i++ {
		f.Blocks[0].Ins = append(f.Blocks[0].Ins, ssa.Ins{Op: ssa.Native, Result: i, Text: "U8.add", Args: []int{i - 1, 1}})
	}
	p := ssa.Program{Funcs: []ssa.Func{f}}
	q, l, e := Run(p, Usual(3))
	if e != api.OK || len(l) < 7000 || Size(q) != 1 {
		t.Errorf("%d steps, error %d, %d instructions", len(l), e, Size(q))
	}
	if n, e := witness.Check(p, q, l[:min(len(l), 500)]); n != 500 || e != witness.ErrResult {
		t.Errorf("%d, error %d", n, e)
	}
	many := ssa.Program{}
	for i := range 12 {
		g := f
		g.Name = strconv.Itoa(i)
		many.Funcs = append(many.Funcs, g)
	}
	if _, l, e := Run(many, []int{Fold, Common, Dead}); e != api.OK || len(l) != 20000 {
		t.Errorf("%d steps, error %d", len(l), e)
	}
}
