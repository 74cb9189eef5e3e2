package machine_test

import (
	"slices"
	"strconv"
	"strings"
	"testing"

	"hackamore/api"
	"hackamore/check"
	"hackamore/code"
	"hackamore/emit"
	"hackamore/internal/actors"
	"hackamore/internal/flows"
	"hackamore/internal/pony"
	"hackamore/internal/sample"
	"hackamore/lower"
	. "hackamore/machine"
	"hackamore/meaning"
	"hackamore/optimize"
	"hackamore/ssa"
)

// somePasses returns passes by chance.
func somePasses(pick func(int) int) []int {
	var l []int
	for range pick(9) {
		l = append(l, 1+pick(optimize.Passes))
	}
	return l
}

// TestTexts checks P27.2 with programs of texts.
func TestTexts(t *testing.T) {
	for i, s := range pony.Texts() {
		p := pony.Program(s)
		for level := range 4 {
			for seed := range 3 {
				pick := sample.Source(uint64(seed))
				var script []int
				for range 40 {
					script = append(script, pick(10))
				}
				what := "text " + strconv.Itoa(i) + " level " + strconv.Itoa(level)
				passes := optimize.Usual(level)
				if seed == 2 {
					passes = somePasses(pick)
				}
				if !engines(t, what, p, passes, script, api.MaxFuel) {
					t.Errorf("%s does not rest", what)
				}
			}
		}
	}
}

// TestNumbers runs bodies by chance with numbers, loops and errors.
func TestNumbers(t *testing.T) {
	p := pony.Program(pony.Numbers)
	rests := 0
	for seed := range 400 {
		m := &pony.NumberMaker{Pick: sample.Source(uint64(seed))}
		passes := optimize.Usual(seed % 4)
		if seed%5 == 0 {
			passes = somePasses(m.Pick)
		}
		if engines(t, "seed "+strconv.Itoa(seed), m.With(p), passes, []int{m.Pick(5), m.Pick(5), m.Pick(5), m.Pick(5)}, 500) {
			rests++
		}
		if t.Failed() {
			t.FailNow()
		}
	}
	if rests < 80 {
		t.Errorf("%d rest", rests)
	}
}

// TestBodies runs checked programs that have something of everything.
func TestBodies(t *testing.T) {
	p := pony.Program(pony.Cells)
	rests := 0
	for seed := range 100 {
		m := pony.BodyMaker{Pick: sample.Source(uint64(seed))}
		q := p
		for _, x := range []string{"main.Act go", "main.Cell get", "main.Cell put", "main.Cell create", "main.Dog m", "main.Main create"} {
			entity, method, _ := strings.Cut(x, " ")
			for range 8 {
				next, i, j := pony.With(q, entity, method, func(x *api.Method) { x.Body = m.Body(*x, 4) })
				if _, _, e := check.Method(next, i, j); e == api.OK {
					q = next
					break
				}
			}
		}
		for range 3 {
			if engines(t, "seed "+strconv.Itoa(seed), q, optimize.Usual(m.Pick(4)), []int{m.Pick(9), m.Pick(9), m.Pick(9), m.Pick(9)}, 3000) {
				rests++
			}
		}
	}
	if rests < 80 {
		t.Errorf("%d rest", rests)
	}
}

// TestRaces checks P27.5, and P27.2, with programs of actors that share objects.
func TestRaces(t *testing.T) {
	steps, paths := 0, 0
	for seed := range 40 {
		m := &actors.Maker{Pick: sample.Source(uint64(seed))}
		p := m.Program(true)
		script := []int{m.Pick(9), m.Pick(9), m.Pick(9), m.Pick(9), m.Pick(9), m.Pick(9), m.Pick(9), m.Pick(9)}
		passes := optimize.Usual(m.Pick(4))
		engines(t, "seed "+strconv.Itoa(seed), p, passes, script, 2000)
		c, e := Compile(p, passes)
		if e != api.OK {
			t.Fatalf("seed %d: error %d", seed, e)
		}
		w := mustWorld(t, p)
		for range 50 {
			_, end, ok := Step(c, w, m.Pick(100), 3000, Options{Poison: seed%2 == 0})
			if !ok || end.Kind == meaning.Fuel {
				break
			}
			if a, b, race := w.Race(); race || end.Kind != meaning.Rest {
				t.Fatalf("seed %d: %v, a race: %v (%v and %v)\n%s", seed, end, race, a, b, w.Dump())
			}
			steps++
			paths += len(w.Paths())
		}
	}
	if steps < 500 || paths < 1000 {
		t.Errorf("%d steps, %d paths", steps, paths)
	}
}

// objects is a program for functions of the intermediate form by chance.
func objects() []api.Entity {
	p := slices.Clone(whole)
	field := func(name string) api.Field { return api.Field{Name: name, Type: flows.Number} }
	param := api.Param{Name: "x", Type: flows.Number}
	fields := []api.Field{field("f"), field("g")}
	p = append(p, api.Entity{Kind: api.Class, Name: "E", Cap: api.Ref, Fields: fields}, api.Entity{Kind: api.Actor, Name: "A", Cap: api.Tag, Fields: fields, Methods: []api.Method{{Kind: api.New, Name: "create"}, {Kind: api.Be, Name: "go"}, {Kind: api.Fun, Name: "m0", Params: []api.Param{param}}}})
	i, _ := pony.At(p, "main.Main", "create")
	p[i].Fields = append(fields, p[i].Fields...)
	p[i].Methods = append(slices.Clone(p[i].Methods), api.Method{Kind: api.Be, Name: "go"})
	return p
}

// form returns a program of the intermediate form by chance: what main.Main does, what objects do, and a function that is called directly.
func form(seed int, p []api.Entity) ssa.Program {
	pick := sample.Source(uint64(seed))
	m := &flows.Maker{Pick: pick, Effects: seed%4 > 0, Objects: seed%3 == 0, Direct: map[string]int{"d": 2}}
	f := ssa.Program{}
	for _, x := range p {
		x.Methods = slices.Clone(x.Methods)
		for i := range x.Methods {
			x.Methods[i].Body = api.Expr{}
		}
		f.Entities = append(f.Entities, x)
	}
	for i, name := range []string{"main.Main.create", "d", "E.m0", "E.m1", "A.create", "A.go", "main.Main.go", "main.Main.m2"} {
		f.Funcs = append(f.Funcs, numbers(m.Func(name, []int{2, 2, 1, 2, 1, 1, 1, 1}[i], 1+pick(5), 1+pick(5)), pick))
	}
	return f
}

// numbers makes tuples and other calls of some instructions, and conditions of most branches that are Bools.
func numbers(f ssa.Func, pick func(int) int) ssa.Func {
	next := len(f.Params)
	change := func(x *ssa.Ins) {
		next = max(next, x.Result+1)
		switch {
		case x.Op == ssa.Native && pick(3) == 0:
			x.Op, x.Text = ssa.Tuple, ""
		case x.Op == ssa.Native && pick(3) > 0:
			x.Op, x.Text = ssa.Call, []string{"add", "lt", "eq", "sub"}[pick(4)]
		case x.Op == ssa.Call && len(x.Args) == 2 && pick(2) == 0:
			x.Text = []string{"add", "eq", "add_partial"}[pick(3)]
		case x.Op == ssa.Send:
			x.Args[0] = 0 // often an actor: the receiver
		}
	}
	for b := range f.Blocks {
		for i := range f.Blocks[b].Ins {
			change(&f.Blocks[b].Ins[i])
		}
		change(&f.Blocks[b].End.Call)
	}
	for b := range f.Blocks {
		x := &f.Blocks[b]
		if x.End.Kind != ssa.Branch || pick(9) == 0 {
			continue
		}
		v := x.End.Args[0]
		asks := []ssa.Ins{{Op: ssa.Is, Args: []int{v, v}}, {Op: ssa.Is, Args: []int{v, 0}}, {Op: ssa.Fits, Args: []int{v}, Type: flows.Number}}[pick(3)]
		asks.Result = next
		x.Ins = append(x.Ins, asks)
		x.End.Args = []int{next}
		next++
	}
	return f
}

// TestForms compares runs of the intermediate form by chance with those of the code that is made of it.
func TestForms(t *testing.T) {
	ends := map[int]int{}
	sends, cells := 0, 0
	p := objects()
	for seed := range 1000 {
		f := form(seed, p)
		if fault, e := ssa.Check(f); e != api.OK {
			t.Fatalf("seed %d: error %d at %v", seed, e, fault)
		}
		c, e := emit.Emit(f)
		if e != api.OK {
			t.Fatalf("seed %d: error %d", seed, e)
		}
		script := []int{seed, seed / 3, seed / 5}
		want, end := lower.Run(f, p, nil, script, 1000)
		got, end2 := Run(c, p, nil, script, 8000, Options{})
		poisoned, end3 := Run(c, p, nil, script, 8000, Options{Poison: true})
		if end2 != end3 || dump(got) != dump(poisoned) {
			t.Errorf("seed %d: with poison %v, not %v", seed, end3, end2)
		}
		ends[end.Kind]++
		sends += len(got.Trace)
		cells += len(got.Cells)
		if end.Kind == meaning.Fuel || end2.Kind == meaning.Fuel {
			continue
		}
		if end.Kind != end2.Kind || end.Actor != end2.Actor || !isAlike(want, got) {
			s, _ := ssa.Print(f.Funcs)
			text, _ := code.Print(c)
			t.Fatalf("seed %d: %v, not %v\n%s\nnot\n%s\n%s\n%s", seed, end2, end, dump(got), dump(want), s, text)
		}
	}
	if ends[meaning.Rest] < 100 || ends[meaning.Stuck] < 300 || sends < 20 || cells < 5000 {
		t.Errorf("%v, %d sends, %d objects", ends, sends, cells)
	}
}
