package machine_test

import (
	"reflect"
	"slices"
	"strings"
	"testing"

	"hackamore/api"
	"hackamore/code"
	"hackamore/internal/codes"
	"hackamore/internal/pony"
	"hackamore/internal/sample"
	"hackamore/lower"
	. "hackamore/machine"
	"hackamore/meaning"
	"hackamore/optimize"
	"hackamore/verify"
	"hackamore/world"
)

// TestExamples: those of the chapter.
func TestExamples(t *testing.T) {
	w := mustWorld(t, whole)
	p := code.Program{Functions: []code.Function{{Name: "f", Params: 1, Classes: []int{code.Any}, Words: []uint32{0x00000014}}}}
	if out := Call(p, w, 1, 0, []api.Value{u8(5)}, 9, Options{}); !reflect.DeepEqual(out, meaning.Outcome{Value: u8(5), Used: 1}) {
		t.Errorf("%v", out)
	}
}

// TestCall: errors of Call.
func TestCall(t *testing.T) {
	good := written(t, 1, back(0))
	bad := code.Program{Functions: []code.Function{function("f", 0, back(0))}}
	for i, c := range []struct {
		p     code.Program
		isNil bool
		n     int
		args  []api.Value
		fuel  int
		want  meaning.Outcome
	}{
		{bad, true, 99, nil, 9, meaning.Outcome{Kind: meaning.Wrong, Code: api.ErrArg}}, {bad, false, 99, nil, 9, meaning.Outcome{Kind: meaning.Wrong, Code: verify.ErrUnset}}, {code.Program{Offsets: make([]int, 5001)}, false, 0, nil, 9, meaning.Outcome{Kind: meaning.Wrong, Code: api.ErrSize}}, {good, false, 7, nil, 9, meaning.Outcome{Kind: meaning.Wrong, Code: api.ErrRange}}, {good, false, -1, nil, 9, meaning.Outcome{Kind: meaning.Wrong, Code: api.ErrRange}}, {good, false, 1 << 62, nil, 9, meaning.Outcome{Kind: meaning.Wrong, Code: api.ErrRange}},
		{good, false, 0, nil, 9, meaning.Outcome{Kind: meaning.Wrong, Code: api.ErrSize}}, {good, false, 0, make([]api.Value, 2), 9, meaning.Outcome{Kind: meaning.Wrong, Code: api.ErrSize}}, {good, false, 0, make([]api.Value, 1), 9, meaning.Outcome{Kind: meaning.Wrong, Code: world.ErrUnset, Used: 1}}, {good, false, 0, make([]api.Value, 1), 0, meaning.Outcome{Kind: meaning.Empty, Code: api.ErrSteps}}, {good, false, 0, make([]api.Value, 1), -5, meaning.Outcome{Kind: meaning.Empty, Code: api.ErrSteps}}, {good, false, 0, []api.Value{u8(1)}, 1 << 62, meaning.Outcome{Value: u8(1), Used: 1}}, {good, false, 2, nil, 9, meaning.Outcome{Kind: meaning.Error, Used: 1}},
	} {
		w := prepared(t)
		if c.isNil {
			w = nil
		}
		if out := Call(c.p, w, 1, c.n, c.args, c.fuel, Options{Poison: i%2 == 0}); !reflect.DeepEqual(out, c.want) {
			t.Errorf("%d: %v, not %v", i, out, c.want)
		}
	}
	if out := Call(written(t, 1, ins(code.Text, 1, 0, 0), back(1)), prepared(t), 77, 0, []api.Value{u8(1)}, 9, Options{}); !reflect.DeepEqual(out, meaning.Outcome{Kind: meaning.Wrong, Code: api.ErrNone, Used: 1}) {
		t.Errorf("an actor that is not there: %v", out)
	}
	loop := written(t, 1, ins(code.Jump, 0, 0, 0))
	if out := Call(loop, prepared(t), 1, 0, []api.Value{u8(1)}, 1<<62, Options{}); !reflect.DeepEqual(out, meaning.Outcome{Kind: meaning.Empty, Code: api.ErrSteps, Used: api.MaxFuel}) {
		t.Errorf("%v", out)
	}
}

// TestStep: which message is taken, and which function it is of.
func TestStep(t *testing.T) {
	p := whole
	bad := code.Program{Functions: []code.Function{function("f", 0, back(0))}}
	stuck := func(actor int, e api.Errno) meaning.End {
		return meaning.End{Kind: meaning.Stuck, Actor: actor, Code: e}
	}
	if used, end, ok := Step(bad, nil, 0, 9, Options{}); used != 0 || ok || end != stuck(-1, api.ErrArg) {
		t.Errorf("%d %v %v", used, end, ok)
	}
	w := mustWorld(t, p)
	if used, end, ok := Step(bad, w, 0, 9, Options{}); used != 0 || !ok || end != stuck(-1, verify.ErrUnset) || len(w.Ready()) != 1 {
		t.Errorf("%d %v %v", used, end, ok)
	}
	if s, end := Run(bad, p, nil, nil, 9, Options{}); end != stuck(-1, verify.ErrUnset) || !reflect.DeepEqual(s, w.State()) {
		t.Errorf("%v", end)
	}
	if s, end := Run(bad, nil, nil, nil, 9, Options{}); end != stuck(-1, world.ErrMethod) || len(s.Actors) > 0 {
		t.Errorf("%v", end)
	}
	if s, end := Run(bad, p, make([]string, 65), nil, 9, Options{}); end != stuck(-1, api.ErrSize) || len(s.Actors) > 0 {
		t.Errorf("%v", end)
	}
	sum := indexed(ins(code.Set, 2, 0, 1), text("sum"))
	c := written(t, 1, back(0))
	c.Functions = append(c.Functions, function("main.Act.go", 2, ins(code.Stuck, 0, 0, 0)), function("main.Act.go", 2, sum, back(2)), function("main.Act.create", 2, ins(code.Raise, 0, 0, 0)), function("main.Act.far", 1, back(0)), function("main.Main.create", 3, back(0)), function("Out.nope", 1, back(0)))
	c = accepted(t, c)
	for i, x := range []struct {
		m    api.Message
		end  meaning.End
		used int
	}{
		{api.Message{From: 1, To: 2, Name: "go", Args: []api.Value{u8(1)}}, meaning.End{Actor: -1}, 3}, {api.Message{From: 1, To: 2, Name: "go"}, stuck(2, api.ErrSize), 1}, {api.Message{From: 1, To: 2, Name: "far"}, stuck(2, world.ErrMethod), 1}, {api.Message{From: 1, To: 2, Name: "nope"}, stuck(2, world.ErrMethod), 1}, {api.Message{From: 1, To: 2, Name: "print", Args: []api.Value{u8(1)}}, stuck(2, world.ErrMethod), 1}, {api.Message{From: 1, To: 2, Name: "create", Args: []api.Value{u8(1)}}, stuck(2, api.ErrState), 2},
		{api.Message{From: 1, To: 0, Name: "print", Args: []api.Value{u8(1)}}, stuck(0, api.ErrType), 1}, {api.Message{From: 1, To: 0, Name: "print"}, stuck(0, api.ErrSize), 1}, {api.Message{From: 1, To: 0, Name: "nope"}, stuck(0, world.ErrMethod), 1}, {api.Message{From: 1, To: 1, Name: "create", Args: []api.Value{object(1)}}, stuck(1, api.ErrSize), 1}, {api.Message{From: 1, To: 1, Name: "create", Args: []api.Value{object(1), object(1)}}, stuck(1, api.ErrSize), 1},
	} {
		w := prepared(t)
		if e := w.Send(x.m); e != api.OK {
			t.Fatalf("%d: error %d", i, e)
		}
		used, end, ok := Step(c, w, 5, 0, Options{})
		if !ok || used != 0 || end != (meaning.End{Kind: meaning.Fuel, Actor: x.m.To, Code: api.ErrSteps}) || len(w.Ready()) != 1 {
			t.Errorf("%d: without fuel: %d, %v", i, used, end)
		}
		used, end, ok = Step(c, w, 5, 100, Options{})
		if !ok || end != x.end || used != x.used || len(w.Ready()) != 0 {
			t.Errorf("%d: %v, not %v, used %d", i, end, x.end, used)
		}
		if used, end, ok := Step(c, w, 5, 100, Options{}); ok || used != 0 || end != (meaning.End{Actor: -1}) {
			t.Errorf("%d: nobody has mail: %d %v %v", i, used, end, ok)
		}
		if v, _ := w.Get(actor(2), "sum"); x.m.Name == "go" && len(x.m.Args) == 1 && v.Lo != 1 {
			t.Errorf("%d: %v", i, v)
		}
	}
	w = prepared(t)
	for _, to := range []int{0, 1, 2} {
		w.Send(api.Message{From: 1, To: to, Name: "nope"})
	}
	for _, x := range []struct{ choice, actor int }{{-1, 2}, {2, 0}, {77, 1}} {
		if _, end, ok := Step(c, w, x.choice, 9, Options{}); !ok || end.Actor != x.actor {
			t.Errorf("%v", end)
		}
	}
}

// TestCompile: errors of Compile, in their order.
func TestCompile(t *testing.T) {
	p := whole
	large, _, _ := pony.With(p, "main.Act", "go", func(m *api.Method) { m.Body = pony.Expr(api.OpBreak, "") })
	tuple := pony.Expr(api.OpTuple, "")
	for range 61 {
		tuple.Kids = append(tuple.Kids, pony.Expr(api.OpThis, ""))
	}
	wide, _, _ := pony.With(p, "main.Act", "go", func(m *api.Method) { m.Body = pony.Expr(api.OpIs, "", tuple, tuple) })
	asks, _, _ := pony.With(p, "main.Act", "go", func(m *api.Method) {
		m.Body = pony.Expr(api.OpMatch, "", pony.Expr(api.OpThis, ""), api.Expr{Op: api.OpCase, Types: []api.Type{{Kind: 9}}, Kids: []api.Expr{{}, pony.Expr(api.OpThis, "")}})
	})
	for i, c := range []struct {
		p      []api.Entity
		passes []int
		e      api.Errno
	}{
		{p, nil, api.OK}, {p, optimize.Usual(3), api.OK}, {nil, []int{99}, world.ErrMethod}, {large, []int{99}, lower.ErrLower}, {p, []int{99}, api.ErrArg}, {p, make([]int, 21), api.ErrSize}, {wide, []int{99}, api.ErrArg}, {wide, nil, api.ErrLarge}, {asks, nil, api.ErrForm},
	} {
		got, e := Compile(c.p, c.passes)
		if e != c.e || e != api.OK && !code.Equal(got, code.Program{}) {
			t.Errorf("%d: error %d, not %d", i, e, c.e)
		}
		if _, e2 := verify.Check(got); e == api.OK && (e2 != api.OK || len(got.Functions) == 0) {
			t.Errorf("%d: error %d", i, e2)
		}
	}
}

// TestFuel checks P27.4.
func TestFuel(t *testing.T) {
	for i, s := range pony.Texts()[:4] {
		p := pony.Program(s)
		c, e := Compile(p, optimize.Usual(i))
		if e != api.OK {
			t.Fatalf("text %d: error %d", i, e)
		}
		state, end := Run(c, p, nil, nil, api.MaxFuel, Options{})
		used, w := 0, mustWorld(t, p)
		for {
			n, _, ok := Step(c, w, 0, api.MaxFuel, Options{})
			if used += n; !ok {
				break
			}
		}
		for _, fuel := range []int{used, used + 1, 1 << 50} {
			s2, end2 := Run(c, p, nil, nil, fuel, Options{})
			if end2 != end || end.Kind != meaning.Rest || !reflect.DeepEqual(state, s2) {
				t.Errorf("text %d: with %d: %v", i, fuel, end2)
			}
		}
		for _, fuel := range []int{used - 1, used / 2, 1, 0, -5} {
			if _, end2 := Run(c, p, nil, nil, fuel, Options{}); end2.Kind != meaning.Fuel || end2.Code != api.ErrSteps {
				t.Errorf("text %d: with %d: %v", i, fuel, end2)
			}
		}
		if long, end2 := Run(c, p, nil, slices.Repeat([]int{0}, 5000), api.MaxFuel, Options{}); end2 != end || !reflect.DeepEqual(state, long) {
			t.Errorf("text %d: with a script: %v", i, end2)
		}
	}
}

// TestPoison checks P27.3, and P27.4, with code by chance, step by step.
func TestPoison(t *testing.T) {
	p := whole
	kinds := map[int]int{}
	for seed := range 1500 {
		m := &codes.Maker{Pick: sample.Source(uint64(seed)), Tidy: seed%4 > 0}
		c, e := verify.Maps(m.Program(4, 3+seed%15))
		if e != api.OK {
			continue
		}
		if seed%2 == 0 { // some maps have more than is needed
			c = widened(c, m.Pick)
		}
		var args []api.Value
		for range c.Functions[0].Params {
			args = append(args, []api.Value{actor(1), u8(3), object(2)}[m.Pick(3)])
		}
		var states [2]world.State
		var outs [2]meaning.Outcome
		for i, poison := range []bool{false, true} {
			w := prepared(t)
			outs[i] = Call(c, w, 1, 0, args, 120, Options{Poison: poison})
			for n := range 3 {
				used, end, ok := Step(c, w, n, 50, Options{Poison: poison})
				outs[i].Used = outs[i].Used*1000 + used
				if ok && end.Kind != meaning.Rest {
					outs[i].Used += int(end.Code)
				}
			}
			states[i] = w.State()
			if e := world.Check(states[i]); e != api.OK {
				t.Errorf("seed %d: the state is not right: error %d", seed, e)
			}
		}
		if !reflect.DeepEqual(outs[0], outs[1]) || !reflect.DeepEqual(states[0], states[1]) {
			t.Fatalf("seed %d: %v, with poison %v", seed, outs[0], outs[1])
		}
		out := Call(c, prepared(t), 1, 0, args, 120, Options{})
		kinds[out.Kind]++
		more := Call(c, prepared(t), 1, 0, args, 121+m.Pick(500), Options{})
		if out.Used > 120 || out.Code != api.ErrSteps && !reflect.DeepEqual(out, more) {
			t.Errorf("seed %d: %v, with more fuel %v", seed, out, more)
		}
		w := mustWorld(t, p)
		if used, _, _ := Step(c, w, 0, 30, Options{Poison: true}); used > 30 {
			t.Errorf("seed %d: %d used", seed, used)
		}
	}
	if kinds[meaning.Value] < 50 || kinds[meaning.Error] < 5 || kinds[meaning.Wrong] < 200 || kinds[meaning.Empty] < 20 {
		t.Errorf("%v", kinds)
	}
}

// widened returns a program some of whose maps have other registers, too, that have values.
func widened(c code.Program, pick func(int) int) code.Program {
	c.Functions = slices.Clone(c.Functions)
	for n := range c.Functions {
		f := &c.Functions[n]
		states, _ := verify.States(c, n)
		f.Maps = slices.Clone(f.Maps)
		for k, m := range f.Maps {
			i := slices.IndexFunc(states, func(s verify.State) bool { return s.At == m.At })
			var live []int
			for r, isSet := range states[i].Set {
				if slices.Contains(m.Live, r) || isSet && pick(2) == 0 {
					live = append(live, r)
				}
			}
			f.Maps[k].Live = live
		}
	}
	return c
}

// TestGarbage: programs of any form, for any world.
func TestGarbage(t *testing.T) {
	p := whole
	for seed := range 1500 {
		m := &codes.Maker{Pick: sample.Source(uint64(seed)), Tidy: true}
		c := m.Garbage()
		_, e := verify.Check(c)
		s, end := Run(c, p, nil, []int{m.Pick(5)}, 500, Options{Poison: seed%2 == 0})
		if e != api.OK && end != (meaning.End{Kind: meaning.Stuck, Actor: -1, Code: e}) {
			t.Errorf("seed %d: error %d, but %v", seed, e, end)
		}
		if e := world.Check(s); e != api.OK {
			t.Errorf("seed %d: the state is not right: error %d", seed, e)
		}
		out := Call(c, prepared(t), m.Pick(5)-1, m.Pick(4)-1, make([]api.Value, m.Pick(3)), m.Pick(300), Options{})
		if e != api.OK && (out.Kind != meaning.Wrong || out.Code != e) {
			t.Errorf("seed %d: error %d, but %v", seed, e, out)
		}
	}
	pm := sample.ProgramMaker{Pick: sample.Source(7)}
	for range 60 {
		q := append(slices.Clone(p), pm.Garbage()...)
		c, e := Compile(q, optimize.Usual(pm.Pick(4)))
		if _, e2 := verify.Check(c); e == api.OK && e2 != api.OK {
			t.Errorf("error %d", e2)
		}
		if e == api.OK {
			Run(c, q, []string{strings.Repeat("x", pm.Pick(9))}, nil, 1000, Options{})
		}
	}
}
