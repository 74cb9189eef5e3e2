package machine_test

import (
	"reflect"
	"testing"

	"hackamore/api"
	"hackamore/code"
	"hackamore/internal/codes"
	"hackamore/internal/pony"
	. "hackamore/machine"
	"hackamore/meaning"
	"hackamore/verify"
	"hackamore/world"
)

// acts is a program for code that is written by hand.
const acts = `
class Cell
  var v: U8
  new create(x: U8) => v = x
actor Act
  var sum: U8
  new create(x: U8) => sum = x
  be go(x: U8) => None
  be print(x: U8) => None
  fun far(): U8 => U8(0)
actor Main
  var sum: U8
  var other: U8
  new create(env: Env) => None
  fun tag all(c: Cell, a: Act): None => None
`

// whole is the program of acts. Nothing changes it.
var whole = pony.Program(acts)

func u8(n uint64) api.Value { return api.Value{Kind: codes.Byte, Lo: n} }

func truth(n uint64) api.Value { return api.Value{Kind: api.ValBool, Lo: n} }

func actor(n uint64) api.Value { return api.Value{Kind: api.ValActor, Lo: n} }

func object(n uint64) api.Value { return api.Value{Kind: api.ValObject, Lo: n} }

func unit(name string) api.Value { return api.Value{Kind: api.ValUnit, Name: name} }

func pair(l ...api.Value) api.Value { return api.Value{Kind: api.ValTuple, Kids: l} }

func ins(op, a, b, c int) code.Ins { return code.Ins{Op: op, A: a, B: b, C: c, Raised: -1} }

func indexed(i code.Ins, index ...int) code.Ins {
	i.Index = index
	return i
}

func listed(i code.Ins, list ...int) code.Ins {
	i.List, i.B = list, len(list)
	return i
}

func raising(i code.Ins, at int) code.Ins {
	i.C, i.Raised = 1, at
	return i
}

func back(r int) code.Ins { return ins(code.Return, r, 0, 0) }

// function returns a function with so many parameters, the Anys 0 to 5 and the Nums 6 to 9.
func function(name string, params int, l ...code.Ins) code.Function {
	f := code.Function{Name: name, Params: params, Classes: []int{2, 2, 2, 2, 2, 2, 1, 1, 1, 1}}
	for _, i := range l {
		w, e := code.Words(i)
		if e != api.OK {
			panic("words: error " + e.Error())
		}
		f.Words = append(f.Words, w...)
	}
	return f
}

// accepted returns a program with the least maps.
func accepted(t *testing.T, p code.Program) code.Program {
	t.Helper()
	q, e := verify.Maps(p)
	if e != api.OK {
		fault, _ := verify.Check(p)
		t.Fatalf("error %d at %v", e, fault)
	}
	return q
}

func dump(s world.State) string {
	w, e := world.Load(s)
	if e != api.OK {
		return "error " + e.Error()
	}
	return w.Dump()
}

func mustWorld(t *testing.T, p []api.Entity) *world.World {
	t.Helper()
	w, e := world.New(p, nil)
	if e != api.OK {
		t.Fatalf("error %d", e)
	}
	return w
}

// isAlike reports whether two states have the same dump, trace and output, and as many actors.
func isAlike(a, b world.State) bool {
	return dump(a) == dump(b) && reflect.DeepEqual(a.Trace, b.Trace) && reflect.DeepEqual(a.Output, b.Output) && len(a.Actors) == len(b.Actors)
}

// engines runs a program by the interpreter and by its code behind some passes, also with poison; it reports whether it rests.
func engines(t *testing.T, what string, p []api.Entity, passes, script []int, fuel int) bool {
	t.Helper()
	want, end := meaning.Run(p, []string{"x"}, script, fuel)
	c, e := Compile(p, passes)
	if e != api.OK {
		t.Fatalf("%s: error %d", what, e)
	}
	if fault, e := verify.Check(c); e != api.OK {
		t.Fatalf("%s: %v, error %d", what, fault, e)
	}
	got, end2 := Run(c, p, []string{"x"}, script, api.MaxFuel, Options{})
	poisoned, end3 := Run(c, p, []string{"x"}, script, api.MaxFuel, Options{Poison: true})
	if end2 != end3 || !reflect.DeepEqual(got, poisoned) {
		t.Errorf("%s: with poison %v, not %v\n%s\nnot\n%s", what, end3, end2, dump(poisoned), dump(got))
	}
	if e := world.Check(got); e != api.OK {
		t.Errorf("%s: the state is not right: error %d", what, e)
	}
	if end.Kind != meaning.Rest || end2.Kind == meaning.Fuel && (end2.Code != api.ErrSteps || fuel > 500) {
		return false
	}
	if end2 != end || !isAlike(want, got) {
		text, _ := code.Print(c)
		t.Errorf("%s: %v, not %v\n%s\nnot\n%s\n%s", what, end2, end, dump(got), dump(want), text)
	}
	return true
}
