package lower_test

import (
	"reflect"
	"slices"
	"strings"
	"testing"

	"hackamore/api"
	"hackamore/internal/pony"
	. "hackamore/lower"
	"hackamore/meaning"
	"hackamore/ssa"
	"hackamore/world"
)

func ins(op, result int, s string, args ...int) ssa.Ins {
	return ssa.Ins{Op: op, Result: result, Text: s, Args: args}
}

func u8(n uint64) api.Value { return api.Value{Kind: api.ValNumber + 6, Lo: n} }

func constant(result int, v api.Value) ssa.Ins { return ssa.Ins{Op: ssa.Const, Result: result, Lit: v} }

func truth(n uint64) api.Value { return api.Value{Kind: api.ValBool, Lo: n} }

func fits(result, v int, t string) ssa.Ins {
	return ssa.Ins{Op: ssa.Fits, Result: result, Args: []int{v}, Type: pony.Type(t)}
}

func item(result, v, n int) ssa.Ins {
	return ssa.Ins{Op: ssa.Item, Result: result, Args: []int{v}, N: n}
}

func spawn(result int, name, text string, args ...int) ssa.Ins {
	return ssa.Ins{Op: ssa.Spawn, Result: result, Name: name, Text: text, Args: args}
}

func back(v int) ssa.End { return ssa.End{Kind: ssa.Return, Args: []int{v}} }

func end(kind int, args []int, to ...int) ssa.End { return ssa.End{Kind: kind, Args: args, To: to} }

func try(call ssa.Ins, to ...int) ssa.End { return ssa.End{Kind: ssa.Try, Call: call, To: to} }

func block(x ssa.End, l ...ssa.Ins) ssa.Block { return ssa.Block{Ins: l, End: x} }

func function(name string, params int, l ...ssa.Block) ssa.Func {
	return ssa.Func{Name: name, Params: make([]api.Type, params), Blocks: l}
}

// helpers are functions that others call.
func helpers() []ssa.Func {
	error := ssa.End{Kind: ssa.Error}
	l := []ssa.Func{
		function("same", 1, block(back(0))), function("fails", 0, block(error)), function("breaks", 0, block(error)), function("deep", 1, block(back(1), ins(ssa.Direct, 1, "deep", 0))), function("main.Cell.get", 1, block(back(1), ins(ssa.Get, 1, "v", 0))), function("main.Cell.bad", 2, block(back(0))), function("U8.twice", 1, block(back(1), ins(ssa.Native, 1, "U8.add", 0, 0))), function("main.Act.odd", 1, block(back(0))),
	}
	l[1].Partial = true
	return l
}

const acts = `
class Cell
  var v: U8
  new create(x: U8) => v = x
actor Act
  var sum: U8
  new create(x: U8) => sum = x
  be go(x: U8) => None
  be print(x: U8) => None
  fun far(): U8 => U8(0)
actor Main
  var sum: U8
  new create(env: Env) => None
  fun tag all(c: Cell, a: Act): None => None
`

// TestInstructions: a message that is run by a function, which has the actor as 0, and the Env as 1; how it ends, what it uses, and what is printed.
func TestInstructions(t *testing.T) {
	p := pony.Program(acts)
	// say prints the text of the value 50.
	say := []ssa.Ins{ins(ssa.Get, 90, "out", 1), ins(ssa.Native, 91, "string", 50), ins(ssa.Send, 92, "print", 90, 91)}
	says := func(l ...ssa.Ins) []ssa.Block { return []ssa.Block{block(back(92), append(l, say...)...)} }
	one := func(l ...ssa.Ins) []ssa.Block { return []ssa.Block{block(back(0), l...)} }
	none := api.Value{Kind: api.ValUnit, Name: "None"}
	for i, c := range []struct {
		l    []ssa.Block
		end  int
		code api.Errno
		used int
		out  string
	}{
		{one(), meaning.Rest, 0, 2, ""}, {says(constant(50, u8(7))), meaning.Rest, 0, 6, "7"}, {says(ins(ssa.Text, 50, "hi")), meaning.Rest, 0, 6, "hi"}, {says(constant(50, none)), meaning.Rest, 0, 6, "None"},
		{one(ins(ssa.Load, 5, "x")), meaning.Stuck, world.ErrUnset, 2, ""}, {says(constant(5, u8(3)), ins(ssa.Store, 6, "x", 5), ins(ssa.Load, 50, "x")), meaning.Rest, 0, 8, "3"}, {says(constant(5, u8(3)), ins(ssa.Store, 50, "x", 5)), meaning.Rest, 0, 7, "None"}, {says(constant(5, u8(3)), ins(ssa.Store, 6, "x", 5), ins(ssa.Store, 50, "x", 0)), meaning.Rest, 0, 8, "3"},
		{one(constant(5, api.Value{}), ins(ssa.Store, 6, "x", 5)), meaning.Rest, 0, 4, ""}, {one(constant(5, api.Value{}), ins(ssa.Store, 6, "x", 5), ins(ssa.Load, 7, "x")), meaning.Stuck, world.ErrUnset, 4, ""}, {says(constant(5, api.Value{}), ins(ssa.Store, 6, "x", 5), ins(ssa.Store, 50, "x", 0)), meaning.Rest, 0, 8, "None"},
		{[]ssa.Block{block(back(5), constant(5, api.Value{}))}, meaning.Stuck, world.ErrUnset, 3, ""}, {one(constant(5, api.Value{}), ins(ssa.Is, 6, "", 0, 5)), meaning.Stuck, world.ErrUnset, 3, ""}, {[]ssa.Block{block(end(ssa.Branch, []int{5}, 1, 1), constant(5, api.Value{})), block(back(0))}, meaning.Stuck, world.ErrUnset, 3, ""},
		{says(constant(5, u8(4)), ins(ssa.Set, 6, "sum", 0, 5), ins(ssa.Get, 50, "sum", 0)), meaning.Rest, 0, 8, "4"}, {says(constant(5, u8(4)), ins(ssa.Set, 50, "sum", 0, 5)), meaning.Rest, 0, 7, "None"}, {one(ins(ssa.Get, 5, "sum", 0)), meaning.Stuck, world.ErrUnset, 2, ""}, {one(ins(ssa.Get, 5, "nope", 0)), meaning.Stuck, world.ErrMethod, 2, ""}, {one(ins(ssa.Get, 5, "out", 1), ins(ssa.Get, 6, "x", 5)), meaning.Stuck, api.ErrCap, 3, ""}, {one(ins(ssa.Get, 5, "out", 1), ins(ssa.Set, 6, "x", 5, 5)), meaning.Stuck, api.ErrCap, 3, ""},
		{one(ins(ssa.Make, 5, "main.Cell"), ins(ssa.Get, 6, "v", 5)), meaning.Stuck, world.ErrUnset, 3, ""}, {one(ins(ssa.Make, 5, "main.Act")), meaning.Stuck, world.ErrMethod, 2, ""}, {says(ins(ssa.Make, 5, "Array[U8 val]"), ins(ssa.Native, 50, "size", 5)), meaning.Rest, 0, 7, "0"}, {one(ins(ssa.Make, 5, "Array[x")), meaning.Stuck, world.ErrMethod, 2, ""}, {one(ssa.Ins{Op: ssa.Make, Result: 5, Text: "main.Cell", Flag: true}), meaning.Rest, 0, 3, ""},
		{says(constant(4, u8(6)), ins(ssa.Make, 5, "main.Cell"), ins(ssa.Set, 6, "v", 5, 4), ins(ssa.Call, 50, "get", 5)), meaning.Rest, 0, 11, "6"}, {one(ins(ssa.Make, 5, "main.Cell"), ins(ssa.Call, 6, "bad", 5)), meaning.Stuck, api.ErrSize, 3, ""}, {one(ins(ssa.Make, 5, "main.Cell"), ins(ssa.Call, 6, "nope", 5)), meaning.Stuck, world.ErrMethod, 3, ""}, {says(constant(5, u8(4)), ins(ssa.Call, 50, "twice", 5)), meaning.Rest, 0, 9, "8"}, {says(constant(5, u8(4)), ins(ssa.Call, 50, "add", 5, 5)), meaning.Rest, 0, 7, "8"}, {one(ins(ssa.Tuple, 5, "", 0, 0), ins(ssa.Call, 6, "x", 5)), meaning.Stuck, api.ErrType, 3, ""}, {one(constant(5, u8(255)), ins(ssa.Call, 6, "add_partial", 5, 5)), meaning.Stuck, api.ErrState, 3, ""},
		{says(constant(5, u8(4)), ins(ssa.Direct, 50, "same", 5)), meaning.Rest, 0, 8, "4"}, {one(ins(ssa.Direct, 5, "fails")), meaning.Stuck, api.ErrState, 3, ""}, {one(ins(ssa.Direct, 5, "breaks")), meaning.Stuck, api.ErrState, 3, ""}, {one(ins(ssa.Direct, 5, "deep", 0)), meaning.Fuel, api.ErrDepth, 102, ""},
		{says(constant(5, u8(4)), ins(ssa.Native, 50, "a.b.mul", 5, 5)), meaning.Rest, 0, 7, "16"}, {one(constant(5, u8(255)), ins(ssa.Native, 6, "U8.add_partial", 5, 5)), meaning.Stuck, api.ErrState, 3, ""}, {one(ins(ssa.Native, 5, "x.")), meaning.Stuck, world.ErrBroken, 2, ""}, {one(ins(ssa.Native, 5, "U8.nope", 0)), meaning.Stuck, world.ErrMethod, 2, ""}, {one(constant(5, u8(4)), ins(ssa.Native, 50, "U8.twice", 5)), meaning.Stuck, api.ErrNone, 3, ""}, {one(ins(ssa.Native, 5, "get", 1)), meaning.Stuck, world.ErrMethod, 2, ""},
		{one(constant(4, u8(6)), spawn(5, "main.Act", "create", 4)), meaning.Rest, 0, 4, ""}, {one(spawn(5, "main.Act", "create")), meaning.Stuck, api.ErrSize, 2, ""}, {one(spawn(5, "main.Act", "go", 0)), meaning.Stuck, world.ErrMethod, 2, ""}, {one(spawn(5, "main.Cell", "create", 0)), meaning.Stuck, world.ErrMethod, 2, ""}, {one(spawn(5, "nope", "create", 0)), meaning.Stuck, world.ErrMethod, 2, ""}, {one(ins(ssa.Send, 5, "go", 1)), meaning.Stuck, api.ErrType, 2, ""}, {says(ins(ssa.Get, 5, "out", 1), ins(ssa.Text, 6, "x"), ins(ssa.Send, 50, "print", 5, 6)), meaning.Rest, 0, 8, "x None"},
		{says(constant(5, u8(1)), constant(6, u8(2)), ins(ssa.Tuple, 7, "", 5, 6), item(50, 7, 1)), meaning.Rest, 0, 9, "2"}, {one(ins(ssa.Tuple, 7, "", 0, 0), item(50, 7, 2)), meaning.Stuck, api.ErrRange, 3, ""}, {one(item(50, 0, 0)), meaning.Stuck, api.ErrType, 2, ""}, {says(ins(ssa.Is, 50, "", 0, 0)), meaning.Rest, 0, 6, "true"}, {says(ins(ssa.Is, 50, "", 0, 1)), meaning.Rest, 0, 6, "false"}, {says(fits(50, 0, "main.Main ref")), meaning.Rest, 0, 6, "true"}, {says(fits(50, 1, "(main.Main ref | U8 val)")), meaning.Rest, 0, 6, "false"}, {says(fits(50, 1, "Any box")), meaning.Rest, 0, 6, "true"}, {says(fits(50, 1, "-")), meaning.Rest, 0, 6, "false"},
		{[]ssa.Block{block(end(ssa.Branch, []int{0}, 1, 2)), block(back(0)), block(back(0))}, meaning.Stuck, api.ErrType, 2, ""}, {[]ssa.Block{block(end(ssa.Branch, []int{5}, 1, 2), constant(5, truth(0))), block(ssa.End{Kind: ssa.Stuck}), block(back(0))}, meaning.Rest, 0, 4, ""}, {[]ssa.Block{block(end(ssa.Branch, []int{5}, 1, 2), constant(5, truth(1))), block(ssa.End{Kind: ssa.Stuck}), block(back(0))}, meaning.Stuck, api.ErrState, 4, ""}, {[]ssa.Block{block(ssa.End{Kind: ssa.Error})}, meaning.Stuck, api.ErrState, 2, ""},
		{[]ssa.Block{block(end(ssa.Branch, []int{5}, 1, 1), constant(5, truth(0)), constant(6, u8(1)), constant(7, u8(2))), says(ssa.Ins{Op: ssa.Phi, Result: 50, Args: []int{6, 7}})[0]}, meaning.Rest, 0, 10, "2"},
		{[]ssa.Block{block(end(ssa.Jump, nil, 1), constant(5, truth(1)), constant(6, u8(1)), constant(7, u8(2)), constant(8, truth(0))), block(end(ssa.Branch, []int{10}, 1, 2), ins(ssa.Phi, 9, "", 6, 50), ins(ssa.Phi, 50, "", 7, 9), ins(ssa.Phi, 10, "", 5, 8)), says()[0]}, meaning.Rest, 0, 18, "1"},
		{[]ssa.Block{block(end(ssa.Jump, nil, 1), constant(5, api.Value{})), block(back(0), ins(ssa.Phi, 6, "", 5))}, meaning.Rest, 0, 5, ""},
		{[]ssa.Block{block(try(ins(ssa.Direct, 5, "fails"), 1, 2)), block(ssa.End{Kind: ssa.Stuck}), block(back(0))}, meaning.Rest, 0, 4, ""}, {[]ssa.Block{block(try(ins(ssa.Direct, 5, "breaks"), 1, 2)), block(ssa.End{Kind: ssa.Stuck}), block(back(0))}, meaning.Stuck, api.ErrState, 3, ""}, {[]ssa.Block{block(try(ins(ssa.Direct, 50, "same", 4), 1, 2), constant(4, u8(5))), says()[0], block(ssa.End{Kind: ssa.Stuck})}, meaning.Rest, 0, 8, "5"}, {[]ssa.Block{block(try(ins(ssa.Call, 50, "add_partial", 4, 4), 1, 2), constant(4, u8(5))), says()[0], block(ssa.End{Kind: ssa.Stuck})}, meaning.Rest, 0, 7, "10"}, {[]ssa.Block{block(try(ins(ssa.Call, 50, "add_partial", 4, 4), 1, 2), constant(4, u8(200))), block(ssa.End{Kind: ssa.Stuck}), block(back(0))}, meaning.Rest, 0, 4, ""}, {[]ssa.Block{block(try(ins(ssa.Call, 50, "add", 4, 4), 1, 2), constant(4, api.Value{})), block(back(0)), block(back(0))}, meaning.Stuck, world.ErrUnset, 3, ""},
		{one(constant(5, api.Value{Kind: api.ValObject, Lo: 99}), ins(ssa.Get, 6, "v", 5)), meaning.Stuck, world.ErrBroken, 3, ""}, {[]ssa.Block{block(end(ssa.Branch, []int{5}, 1, 2), constant(5, truth(7))), block(ssa.End{Kind: ssa.Stuck}), block(back(0))}, meaning.Rest, 0, 4, ""},
	} {
		f := ssa.Program{Funcs: append(helpers(), function("main.Main.create", 2, c.l...))}
		if fault, e := ssa.Check(f); e != api.OK {
			t.Fatalf("%d: error %d at %v", i, e, fault)
		}
		w, _ := world.New(p, nil)
		used, end, ok := Step(f, w, 0, 1000)
		want := meaning.End{Kind: c.end, Actor: 1, Code: c.code}
		if c.end == meaning.Rest {
			want.Actor = -1
		}
		for { // the other messages are those that print
			if _, _, more := meaning.Step(w, 0, 100); !more {
				break
			}
		}
		if out := strings.Join(w.State().Output, " "); !ok || end != want || used != c.used || out != c.out {
			t.Errorf("%d: %v, not %v, used %d, not %d, printed %q, not %q", i, end, want, used, c.used, out, c.out)
		}
		for n := range c.used { // with less fuel
			w, _ := world.New(p, nil)
			used, end, ok := Step(f, w, 0, n)
			if !ok || used != n || end != (meaning.End{Kind: meaning.Fuel, Actor: 1, Code: api.ErrSteps}) {
				t.Errorf("%d: with the fuel %d: used %d, %v", i, n, used, end)
			}
			if n == 0 && len(w.Ready()) != 1 {
				t.Errorf("%d: a message is taken without fuel", i)
			}
		}
	}
}

// TestStep: which message is taken, and which method it is of.
func TestStep(t *testing.T) {
	p := pony.Program(acts)
	f, e := Lower(p)
	if e != api.OK {
		t.Fatalf("error %d", e)
	}
	bad := ssa.Program{Funcs: []ssa.Func{{}}}
	if used, end, ok := Step(bad, nil, 0, 9); used != 0 || ok || end != (meaning.End{Kind: meaning.Stuck, Actor: -1, Code: api.ErrArg}) {
		t.Errorf("%d %v %v", used, end, ok)
	}
	w, _ := world.New(p, nil)
	if used, end, ok := Step(bad, w, 0, 9); used != 0 || !ok || end != (meaning.End{Kind: meaning.Stuck, Actor: -1, Code: ErrLower}) || len(w.Ready()) != 1 {
		t.Errorf("%d %v %v", used, end, ok)
	}
	s, end := Run(bad, p, nil, nil, 9)
	if end != (meaning.End{Kind: meaning.Stuck, Actor: -1, Code: ErrLower}) || !reflect.DeepEqual(s, w.State()) {
		t.Errorf("%v", end)
	}
	if s, end := Run(bad, nil, nil, nil, 9); end != (meaning.End{Kind: meaning.Stuck, Actor: -1, Code: world.ErrMethod}) || len(s.Actors) > 0 {
		t.Errorf("%v", end)
	}
	if s, end := Run(f, p, make([]string, 65), nil, 9); end != (meaning.End{Kind: meaning.Stuck, Actor: -1, Code: api.ErrSize}) || len(s.Actors) > 0 {
		t.Errorf("%v", end)
	}
	for i, c := range []struct {
		m    api.Message
		end  int
		code api.Errno
		used int
	}{
		{api.Message{From: 1, To: 2, Name: "go", Args: []api.Value{u8(1)}}, meaning.Rest, 0, 3}, {api.Message{From: 1, To: 2, Name: "go"}, meaning.Stuck, api.ErrSize, 1}, {api.Message{From: 1, To: 2, Name: "far"}, meaning.Stuck, world.ErrMethod, 1}, {api.Message{From: 1, To: 2, Name: "nope"}, meaning.Stuck, world.ErrMethod, 1}, {api.Message{From: 1, To: 2, Name: "odd"}, meaning.Stuck, world.ErrMethod, 1},
		{api.Message{From: 1, To: 0, Name: "print", Args: []api.Value{u8(1)}}, meaning.Stuck, api.ErrType, 1}, {api.Message{From: 1, To: 0, Name: "print"}, meaning.Stuck, api.ErrSize, 1}, {api.Message{From: 1, To: 2, Name: "create", Args: []api.Value{u8(1)}}, meaning.Rest, 0, 4},
	} {
		w, _ := world.New(p, nil)
		w.Take(1)
		w.Spawn("main.Act")
		if e := w.Send(c.m); e != api.OK {
			t.Fatalf("%d: error %d", i, e)
		}
		used, end, ok := Step(f, w, 3, 100)
		want := meaning.End{Kind: c.end, Actor: c.m.To, Code: c.code}
		if c.end == meaning.Rest {
			want.Actor = -1
		}
		if !ok || end != want || c.end == meaning.Stuck && used != c.used {
			t.Errorf("%d: %v, not %v, used %d", i, end, want, used)
		}
		if used, end, ok := Step(f, w, 3, 100); ok || used != 0 || end != (meaning.End{Kind: meaning.Rest, Actor: -1}) {
			t.Errorf("%d: nobody has mail: %d %v %v", i, used, end, ok)
		}
	}
	w, _ = world.New(p, nil)
	w.Take(1)
	w.Spawn("main.Act")
	w.Send(api.Message{From: 1, To: 2, Name: "print", Args: []api.Value{u8(1)}})
	if _, end, _ := Step(ssa.Program{}, w, 0, 100); end != (meaning.End{Kind: meaning.Stuck, Actor: 2, Code: world.ErrMethod}) { // without a function it is the runtime's, which has no such method of this actor
		t.Errorf("%v", end)
	}
}

// TestFuel checks P20.3.
func TestFuel(t *testing.T) {
	for i, s := range pony.Texts()[:3] {
		p := pony.Program(s)
		f, _ := Lower(p)
		state, end := Run(f, p, nil, nil, api.MaxFuel)
		used, w := 0, mustWorld(t, p)
		for {
			n, _, ok := Step(f, w, 0, api.MaxFuel)
			if used += n; !ok {
				break
			}
		}
		for _, fuel := range []int{used, used + 1, 1 << 50} {
			s2, end2 := Run(f, p, nil, nil, fuel)
			if end2 != end || end.Kind != meaning.Rest || !reflect.DeepEqual(state, s2) {
				t.Errorf("text %d: with %d: %v", i, fuel, end2)
			}
		}
		for _, fuel := range []int{used - 1, used / 2, 1, 0, -5} {
			if _, end2 := Run(f, p, nil, nil, fuel); end2.Kind != meaning.Fuel || end2.Code != api.ErrSteps {
				t.Errorf("text %d: with %d: %v", i, fuel, end2)
			}
		}
		if long, end2 := Run(f, p, nil, slices.Repeat([]int{0}, 5000), api.MaxFuel); end2 != end || !reflect.DeepEqual(state, long) {
			t.Errorf("text %d: with a script: %v", i, end2)
		}
	}
}

func mustWorld(t *testing.T, p []api.Entity) *world.World {
	w, e := world.New(p, nil)
	if e != api.OK {
		t.Fatalf("error %d", e)
	}
	return w
}
