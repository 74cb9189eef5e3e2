package lower_test

import (
	"reflect"
	"strconv"
	"testing"

	"hackamore/api"
	"hackamore/internal/pony"
	. "hackamore/lower"
	"hackamore/meaning"
	"hackamore/ssa"
	"hackamore/world"
)

func expr(op int, s string, kids ...api.Expr) api.Expr { return pony.Expr(op, s, kids...) }

func num(n int) api.Expr { return expr(api.OpLit, strconv.Itoa(n)+": U8 val") }

func boolean(b bool) api.Expr { return expr(api.OpLit, strconv.FormatBool(b)+": Bool val") }

func seq(kids ...api.Expr) api.Expr { return expr(api.OpSeq, "", kids...) }

func local(name string) api.Expr { return expr(api.OpLocal, name) }

func call(name string, kids ...api.Expr) api.Expr { return expr(api.OpCall, name, kids...) }

func isSame(a, b api.Expr) api.Expr { return expr(api.OpIs, "", a, b) }

func this() api.Expr { return expr(api.OpThis, "") }

var no = api.Expr{}

// say sends the text of a value to the actor that prints, which is what this.out has.
func say(e api.Expr) api.Expr {
	return call("print", expr(api.OpGet, "out", this()), call("string", e))
}

// whole is the program of the text.
var whole = pony.Program(pony.Numbers)

// with returns the program with a body of the method test of Main.
func with(body api.Expr) []api.Entity {
	p, _, _ := pony.With(whole, "main.Main", "test", func(m *api.Method) { m.Body = body })
	return p
}

func change(p []api.Entity, entity, method string, body api.Expr) []api.Entity {
	p, _, _ = pony.With(p, entity, method, func(m *api.Method) { m.Body = body })
	return p
}

// promoted returns a program whose functions were promoted.
func promoted(t *testing.T, p ssa.Program) ssa.Program {
	out := ssa.Program{Entities: p.Entities}
	for _, f := range p.Funcs {
		g, e := ssa.Promote(f)
		if e != api.OK {
			t.Fatalf("Promote of %s: error %d", f.Name, e)
		}
		out.Funcs = append(out.Funcs, g)
	}
	return out
}

func cleaned(t *testing.T, p ssa.Program) ssa.Program {
	out := ssa.Program{Entities: p.Entities}
	for _, f := range p.Funcs {
		g, e := ssa.Clean(f)
		if e != api.OK {
			t.Fatalf("Clean of %s: error %d", f.Name, e)
		}
		out.Funcs = append(out.Funcs, g)
	}
	return out
}

func dump(s world.State) string {
	w, e := world.Load(s)
	if e != api.OK {
		return "error " + e.Error()
	}
	return w.Dump()
}

func printed(f ssa.Program) string {
	s, e := ssa.Print(f.Funcs)
	if e != api.OK {
		return "error " + e.Error()
	}
	return s
}

// compare compares the run of a program by the interpreter with those of its intermediate form, if it rests; it reports whether it does.
func compare(t *testing.T, what string, p []api.Entity, script []int, fuel int) bool {
	t.Helper()
	s, end := meaning.Run(p, []string{"x"}, script, fuel)
	f, e := Lower(p)
	if e != api.OK {
		t.Fatalf("%s: Lower: error %d", what, e)
	}
	if fault, e := ssa.Check(f); e != api.OK {
		t.Fatalf("%s: not right: %d at %v", what, e, fault)
	}
	for i, g := range []ssa.Program{f, promoted(t, f), cleaned(t, f)} {
		s2, end2 := Run(g, p, []string{"x"}, script, api.MaxFuel)
		if e := world.Check(s2); e != api.OK {
			t.Errorf("%s: the state is not right: error %d", what, e)
		}
		if end.Kind != meaning.Rest {
			continue
		}
		if end2.Kind == meaning.Fuel && (end2.Code != api.ErrSteps || fuel > 500) {
			continue
		}
		if end2 != end || dump(s) != dump(s2) || !reflect.DeepEqual(s.Trace, s2.Trace) || !reflect.DeepEqual(s.Output, s2.Output) || len(s.Actors) != len(s2.Actors) {
			t.Errorf("%s: form %d: %v, not %v\n%s\nnot\n%s\n%s", what, i, end2, end, dump(s2), dump(s), printed(g))
		}
	}
	return end.Kind == meaning.Rest
}
