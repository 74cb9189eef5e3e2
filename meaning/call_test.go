package meaning_test

import (
	"reflect"
	"slices"
	"strconv"
	"strings"
	"testing"

	"hackamore/api"
	"hackamore/internal/pony"
	. "hackamore/meaning"
	"hackamore/world"
)

// TestCalls: calls of methods that have a body, of behaviours, and of those that the runtime gives.
func TestCalls(t *testing.T) {
	p := pony.Program(text)
	p = with(p, "main.Cell", "bad", fail())
	cell, dog := makes("of: main.Cell", byte8("7")), makes("create: main.Dog")
	maths := expr(api.OpUnit, ": main.Maths val")
	testEval(t, p, []evaluated{
		{call("get", cell), "value U8 7", 0, ""}, {call("two", cell, byte8("1"), byte8("2")), "value U8 3", 0, ""}, {call("two", cell, byte8("1")), "wrong 4", 0, ""}, {call("get", cell, byte8("1")), "wrong 4", 0, ""}, {call("two", seq(push("1"), cell), fail(), push("2")), "error", 0, "1"}, {call("two", fail(), push("2")), "error", 2, ""},
		{call("give", cell, byte8("1")), "value None", 0, ""}, {call("back", cell, byte8("9")), "value U8 9", 0, ""}, {call("risky", cell, byte8("3")), "value U8 3", 0, ""}, {call("risky", cell, byte8("0")), "error", 0, ""}, {call("bad", cell, byte8("0")), "wrong 14", 0, ""}, {call("get", makes("create: main.Cell")), "wrong 192", 0, ""},
		{call("name", dog), "value U8 77", 0, ""}, {call("abstract", dog), "value U8 1", 0, ""}, {call("nope", dog), "wrong 191", 0, ""}, {call("create", dog), "wrong 191", 0, ""}, {call("half", maths, byte8("9")), "value U8 4", 0, ""}, {call("create", maths), "wrong 191", 0, ""},
		{call("add", byte8("250"), byte8("10")), "value U8 4", 3, ""}, {call("add_partial", byte8("250"), byte8("10")), "error", 3, ""}, {call("nope", byte8("1")), "wrong 5", 2, ""}, {call("add", byte8("1")), "wrong 4", 2, ""}, {call("add", byte8("1"), yes()), "wrong 11", 3, ""}, {call("string", yes()), `value "true"#0`, 2, ""},
		{call("string", expr(api.OpUnit, ": None val")), `value "None"#0`, 2, ""}, {call("size", this()), "value USize 0", 2, ""}, {call("pop", this()), "error", 2, ""}, {push("5"), "value None", 3, "5"}, {call("apply", lit("abc: String"), lit("1: USize")), "value U8 98", 3, ""},
		{call("x", expr(api.OpTuple, "", yes(), yes())), "wrong 11", 4, ""}, {call("x", no), "wrong 2", 2, ""}, {call("x", expr(api.OpUnit, ": Nope val")), "wrong 190", 2, ""},
	})
	w := begun(t, p)
	for i, c := range []struct {
		this api.Value
		e    api.Expr
		want string
	}{
		{act(2), call("go", this(), byte8("1")), "value None"}, {act(2), call("go", this()), "wrong 4"}, {act(2), call("go", this(), this(), this()), "wrong 4"}, {act(2), call("mine", this()), "wrong 13"}, {act(2), call("nope", this()), "wrong 191"}, {act(2), call("create", this(), byte8("1")), "wrong 191"},
		{act(0), call("print", this(), lit("x: String")), "value None"}, {act(0), call("print", this(), byte8("1")), "value None"}, {act(0), call("print", this()), "wrong 4"}, {act(9), call("go", this()), "wrong 11"}, {obj(9), call("go", this()), "wrong 11"}, {api.Value{}, call("go", this()), "wrong 11"},
		{act(2), call("go", this(), expr(api.OpUnit, ": Nope val")), "wrong 190"},
	} {
		ahead := len(w.State().Trace)
		if got := told(w, Eval(w, 1, c.this, c.e, nil, 100)); got != c.want {
			t.Errorf("%d: %s, not %s", i, got, c.want)
		}
		if sent := len(w.State().Trace) > ahead; sent != (c.want == "value None") {
			t.Errorf("%d: sent: %v", i, sent)
		}
	}
	if got := w.State().Trace[0]; got.From != 1 || got.To != 2 || got.Name != "go" || strings.Join(got.Args, ", ") != "U8 1" {
		t.Errorf("%v", got)
	}
}

// TestKinds: what is no function and no behaviour is not called.
func TestKinds(t *testing.T) {
	p := pony.Program(text)
	change := func(entity, name string, f func(m *api.Method)) { p, _, _ = pony.With(p, entity, name, f) }
	change("main.Cell", "get", func(m *api.Method) { m.Kind = api.Be })
	change("main.Cell", "back", func(m *api.Method) { m.Kind = 7 })
	change("main.Cell", "give", func(m *api.Method) { m.Kind, m.Body = api.Be, no })
	change("main.Act", "go", func(m *api.Method) { m.Body = no })
	change("main.Cell", "two", func(m *api.Method) { m.Params[1].Name = m.Params[0].Name; m.Body = local(m.Params[0].Name) })
	change("main.Cell", "risky", func(m *api.Method) { m.Result = pony.Type("None ref"); m.Body = byte8("1") })
	change("main.Dog", "abstract", func(m *api.Method) { m.Body = expr(api.OpBreak, "") })
	change("main.Cell", "bad", func(m *api.Method) { m.Body = expr(api.OpContinue, "") })
	change("main.Cell", "twice", func(m *api.Method) { m.Body = no })
	change("main.Cell", "of", func(m *api.Method) { m.Partial = true; m.Body = fail() })
	cell := makes("create: main.Cell")
	testEval(t, p, []evaluated{
		{call("get", cell), "wrong 11", 0, ""}, {call("back", cell, byte8("1")), "wrong 191", 0, ""}, {call("give", cell, byte8("1")), "wrong 11", 0, ""}, {call("two", cell, byte8("1"), byte8("2")), "value U8 2", 0, ""}, {call("risky", cell, byte8("1")), "value None", 0, ""},
		{call("abstract", makes("create: main.Dog")), "wrong 2", 0, ""}, {call("bad", cell, byte8("1")), "wrong 2", 0, ""}, {makes("twice: main.Cell", byte8("1"), byte8("2")), "wrong 2", 4, ""}, {makes("of: main.Cell", byte8("1")), "error", 0, ""},
	})
	w := begun(t, p)
	if got := told(w, Eval(w, 1, act(2), call("go", this(), byte8("1")), nil, 10)); got != "value None" { // a behaviour is sent also without a body
		t.Error(got)
	}
}

// TestResults: the value of a body is None if the result is the name None, not if it is another type that has it.
func TestResults(t *testing.T) {
	for _, c := range []struct {
		result api.Type
		want   string
	}{
		{pony.Type("None val"), "value None"}, {pony.Type("None iso^"), "value None"}, {api.Type{}, "value U8 7"}, {pony.Type("U8 val"), "value U8 7"}, {pony.Type("(None val | U8 val)"), "value U8 7"}, {api.Type{Kind: api.TypeParam, Name: "None"}, "value U8 7"},
	} {
		for _, body := range []api.Expr{byte8("7"), expr(api.OpReturn, "", byte8("7"))} {
			p, _, _ := pony.With(pony.Program(text), "main.Cell", "get", func(m *api.Method) { m.Result, m.Body = c.result, body })
			w := begun(t, p)
			if got := told(w, Eval(w, 1, act(1), call("get", makes("create: main.Cell")), nil, 100)); got != c.want {
				t.Errorf("%v: %s", c.result, got)
			}
		}
	}
}

func TestConstructors(t *testing.T) {
	p := pony.Program(text)
	p = append(p, api.Entity{Kind: 9, Name: "odd"}, api.Entity{Kind: api.Class, Name: "Array[Bool val]", Methods: []api.Method{{Kind: api.New, Name: "of", Body: seq()}, {Kind: api.New, Name: "create", Params: make([]api.Param, 1), Body: byte8("1")}}})
	testEval(t, p, []evaluated{
		{makes("create: main.Cell"), "value main.Cell#0{v=none, next=none}", 0, ""}, {makes("of: main.Cell", byte8("3")), "value main.Cell#0{v=U8 3, next=none}", 0, ""}, {makes("twice: main.Cell", byte8("3"), byte8("4")), "value main.Cell#0{v=U8 3, next=none}", 0, ""},
		{makes("of: main.Cell"), "wrong 4", 1, ""}, {makes("create: main.Cell", byte8("3")), "wrong 4", 2, ""}, {makes("get: main.Cell"), "wrong 191", 1, ""}, {makes("nope: main.Cell"), "wrong 191", 1, ""}, {makes("of: main.Cell", fail()), "error", 2, ""}, {makes("of: main.Cell", push("1"), fail()), "error", 0, "1"},
		{makes("create: main.Act", byte8("3")), "value @3", 2, ""}, {makes("create: main.Act"), "wrong 4", 1, ""}, {makes("go: main.Act", byte8("1")), "wrong 191", 2, ""}, {makes("create: main.Act", expr(api.OpUnit, ": Nope val")), "wrong 190", 2, ""},
		{makes("create: main.Maths"), "value main.Maths", 1, ""}, {makes("nope: main.Maths", byte8("1")), "value main.Maths", 2, ""}, {makes("create: main.Named"), "wrong 191", 1, ""}, {makes("create: Any"), "wrong 191", 1, ""}, {makes("create: Nope"), "wrong 191", 1, ""}, {makes("create: odd"), "wrong 191", 1, ""}, {makes("create: "), "wrong 191", 1, ""},
		{makes("create: Array[U8 val]"), "value Array[U8 val]#0{}", 1, ""}, {makes("create: Array[x]"), "value Array[x]#0{}", 1, ""}, {makes("create: Array[x"), "wrong 191", 1, ""}, {makes("of: Array[x]"), "wrong 191", 1, ""}, {makes("create: Array[x]", byte8("1")), "wrong 191", 2, ""}, {makes("create: Array"), "wrong 191", 1, ""},
		{makes("of: Array[Bool val]"), "value Array[Bool val]#0{}", 2, ""}, {makes("create: Array[Bool val]", yes()), "value Array[Bool val]#0{}", 3, ""},
		{makes("create: U8", byte8("3")), "value U8 3", 2, ""}, {makes("create: U8", lit("3: U16")), "wrong 11", 2, ""}, {makes("create: U8"), "value U8", 1, ""}, {makes("create: U8", byte8("1"), byte8("2")), "value U8", 3, ""}, {makes("of: U8", byte8("1")), "value U8", 2, ""}, {makes("create: F64", lit("1.5: F64")), "value F64 1.5", 2, ""},
		{makes("create: Bool", yes()), "value Bool", 2, ""}, {makes("create: U8", yes()), "wrong 11", 2, ""}, {makes("create: U8", fail()), "error", 2, ""}, {makes("create: String"), "wrong 191", 1, ""},
	})
	w := begun(t, p)
	if got := told(w, Eval(w, 1, act(1), makes("create: main.Act", byte8("9")), nil, 10)); got != "value @3" {
		t.Error(got)
	}
	s := w.State()
	if m := s.Actors[3].Mail; len(m) != 1 || m[0].From != 1 || m[0].Name != "create" || m[0].Args[0].Lo != 9 || s.Trace[0].To != 3 {
		t.Errorf("%v", m)
	}
	p, _, _ = pony.With(pony.Program(text), "main.Cell", "of", func(m *api.Method) { m.Kind = api.Fun })
	w = begun(t, p)
	if got := told(w, Eval(w, 1, act(1), makes("of: main.Cell", byte8("9")), nil, 10)); got != "wrong 191" {
		t.Error(got)
	}
}

// deepening returns a program in which a function calls itself, as many times as its argument says.
func deepening() []api.Entity {
	return pony.Program(strings.Replace(text, "fun bad(x: U8): U8 => x", "fun bad(x: U8): U8 => if x == U8(0) then x else this.bad(x - U8(1)) end", 1))
}

// TestDeepCalls: a body is run in 100 others at most.
func TestDeepCalls(t *testing.T) {
	w := begun(t, deepening())
	cell := makes("create: main.Cell")
	for n, want := range map[string]string{"99": "value U8 0", "100": "value U8 0", "101": "empty 9", "255": "empty 9"} {
		if got := told(w, Eval(w, 1, act(1), call("bad", cell, byte8(n)), nil, api.MaxFuel)); got != want {
			t.Errorf("%s: %s", n, got)
		}
		if got := told(w, Eval(w, 1, act(1), expr(api.OpTry, "", call("bad", cell, byte8(n)), byte8("1"), no), nil, api.MaxFuel)); got != want {
			t.Errorf("%s in a try: %s", n, got)
		}
	}
	c := Eval(w, 1, act(1), cell, nil, 100).Value
	for n, want := range map[uint64]string{100: "value U8 0", 101: "empty 9"} {
		if got := told(w, Call(w, 1, c, "bad", []api.Value{u8(n)}, api.MaxFuel)); got != want {
			t.Errorf("Call with %d: %s", n, got)
		}
	}
	p := with(pony.Program(text), "main.Cell", "create", makes("create: main.Cell"))
	w = begun(t, p)
	if got := told(w, Eval(w, 1, act(1), cell, nil, api.MaxFuel)); got != "empty 9" || len(w.State().Cells) != 2+102 {
		t.Errorf("constructors: %s, %d objects", got, len(w.State().Cells))
	}
}

// TestDeepBodies: bodies may be as deep as the fuel lets them.
func TestDeepBodies(t *testing.T) {
	deep := seq()
	for range 60000 {
		deep = seq(deep)
	}
	w := begun(t, with(pony.Program(text), "main.Cell", "get", deep))
	if o := Eval(w, 1, act(1), call("get", makes("create: main.Cell")), nil, api.MaxFuel); told(w, o) != "value None" || o.Used < 60000 {
		t.Errorf("%s", told(w, o))
	}
}

func TestCall(t *testing.T) {
	w := begun(t, with(pony.Program(text), "main.Cell", "bad", fail()))
	cell := Eval(w, 1, act(1), makes("of: main.Cell", byte8("7")), nil, 100).Value
	if o := Call(nil, 1, cell, "get", nil, 10); told(w, o) != "wrong 1" {
		t.Errorf("%v", o)
	}
	for i, c := range []struct {
		receiver api.Value
		name     string
		args     []api.Value
		fuel     int
		want     string
		used     int
	}{
		{cell, "get", nil, 10, "value U8 7", 2}, {cell, "get", nil, 1, "empty 10", 1}, {cell, "get", nil, 0, "empty 10", 0}, {cell, "get", nil, -5, "empty 10", 0}, {cell, "get", nil, 1 << 50, "value U8 7", 2}, {cell, "give", []api.Value{u8(1)}, 10, "value None", 1}, {cell, "risky", []api.Value{u8(0)}, 10, "error", 5}, {cell, "bad", []api.Value{u8(0)}, 10, "wrong 14", 1},
		{cell, "get", []api.Value{u8(1)}, 10, "wrong 4", 0}, {cell, "nope", nil, 10, "wrong 191", 0}, {cell, "of", []api.Value{u8(1)}, 10, "wrong 191", 0}, {u8(1), "add", []api.Value{u8(2)}, 0, "value U8 3", 0}, {u8(255), "add_partial", []api.Value{u8(2)}, 0, "error", 0}, {act(2), "go", []api.Value{u8(2)}, 0, "value None", 0}, {act(2), "go", nil, 0, "wrong 4", 0},
		{api.Value{}, "x", nil, 10, "wrong 11", 0}, {api.Value{Kind: api.ValTuple, Kids: []api.Value{cell, cell}}, "get", nil, 10, "wrong 11", 0}, {obj(99), "get", nil, 10, "wrong 11", 0}, {act(2), "mine", nil, 10, "wrong 13", 2}, {cell, "give", []api.Value{{}}, 10, "wrong 192", 1},
	} {
		if o := Call(w, 1, c.receiver, c.name, c.args, c.fuel); told(w, o) != c.want || o.Used != c.used || o.Locals != nil {
			t.Errorf("%d: %s, used %d", i, told(w, o), o.Used)
		}
	}
	if o := Call(w, 2, act(2), "go", []api.Value{u8(9)}, 0); o.Kind != Value {
		t.Errorf("%v", o)
	}
	if o := Call(w, 7, u8(1), "string", nil, 0); told(w, o) != "wrong 5" { // there is no such actor
		t.Errorf("%s", told(w, o))
	}
	if e := world.Check(w.State()); e != api.OK {
		t.Errorf("error %d", e)
	}
}

// typed returns an expression whose calls all have type arguments.
func typed(e api.Expr, l []api.Type) api.Expr {
	e.Types = slices.Clone(e.Types)
	if e.Op == api.OpCall || e.Op == api.OpNew {
		e.Types = append(e.Types, l...)
	}
	e.Kids = slices.Clone(e.Kids)
	for i, k := range e.Kids {
		e.Kids[i] = typed(k, l)
	}
	return e
}

// TestTypeArguments: a call may have type arguments, however many and whatever they are; they change nothing.
func TestTypeArguments(t *testing.T) {
	p := pony.Program(text)
	cell := makes("of: main.Cell", byte8("7"))
	for i, l := range [][]api.Type{pony.Types("U8 val"), pony.Types("main.Cell ref", "(U8 val | None val)"), {{}, {Kind: 99, Name: "Nope"}}, make([]api.Type, 70)} {
		for j, e := range []api.Expr{
			call("add", byte8("1"), byte8("2")), call("add_partial", byte8("250"), byte8("10")), call("nope", byte8("1")), call("add", byte8("1")), call("string", yes()), call("get", cell), call("two", cell, byte8("1"), call("get", cell)), call("risky", cell, byte8("0")), call("create", cell), call("get", byte8("1")),
			call("go", makes("create: main.Act", byte8("1")), byte8("2")), call("x", expr(api.OpTuple, "", yes(), cell)), makes("create: U8", byte8("5")), makes("create: U8", yes()), makes("of: main.Cell"), makes("nope: main.Cell"), makes("create: main.Act", byte8("3")), makes("go: main.Act", byte8("3")), makes("create: main.Maths"),
			makes("create: main.Named"), makes("create: Array[U8 val]"), makes("create: Nope"), makes("of: main.Cell", fail()),
		} {
			checkAlike(t, p, e, typed(e, l), strconv.Itoa(i)+", "+strconv.Itoa(j))
		}
	}
	all := pony.Types("U8 val", "main.Cell ref")
	testEval(t, p, []evaluated{
		{api.Expr{Op: api.OpCall, Text: "add", Types: all[:1], Kids: []api.Expr{byte8("1"), byte8("2")}}, "value U8 3", 3, ""}, {api.Expr{Op: api.OpNew, Text: "create", Types: pony.Types("U8 val", "U8 val"), Kids: []api.Expr{byte8("5")}}, "value U8 5", 2, ""},
		{api.Expr{Op: api.OpNew, Text: "of", Types: pony.Types("main.Cell ref", "Nope val"), Kids: []api.Expr{byte8("5")}}, "value main.Cell#0{v=U8 5, next=none}", 0, ""}, {api.Expr{Op: api.OpNew, Text: "of", Types: pony.Types("Nope val", "main.Cell ref"), Kids: []api.Expr{byte8("5")}}, "wrong 191", 2, ""},
		{api.Expr{Op: api.OpCall, Text: "add", Types: all}, "wrong 2", 1, ""}, {api.Expr{Op: api.OpCall, Text: "add"}, "wrong 2", 1, ""}, {api.Expr{Op: api.OpNew, Text: "create"}, "wrong 2", 1, ""}, {api.Expr{Op: api.OpNew, Text: "create", Kids: []api.Expr{push("1")}}, "wrong 2", 1, ""},
	})
}

// checkAlike checks that two expressions come to the same, evaluated by themselves and in bodies.
func checkAlike(t *testing.T, p []api.Entity, a, b api.Expr, where string) {
	t.Helper()
	eval := func(e api.Expr) (*world.World, any) {
		w := begun(t, p)
		return w, Eval(w, 1, act(1), e, locals("x", u8(1)), 100)
	}
	inCall := func(e api.Expr) (*world.World, any) {
		w := begun(t, with(p, "main.Cell", "back", e))
		v, _ := w.Make(1, "main.Cell")
		return w, Call(w, 1, v, "back", []api.Value{u8(1)}, 100)
	}
	inStep := func(e api.Expr) (*world.World, any) {
		w := begun(t, with(p, "main.Act", "go", e))
		w.Send(api.Message{From: 1, To: 2, Name: "go", Args: []api.Value{u8(1)}})
		used, end, ok := Step(w, 0, 100)
		return w, []any{used, end, ok}
	}
	inRun := func(e api.Expr) (*world.World, any) {
		s, end := Run(with(p, "main.Main", "create", e), nil, []int{1, 2}, 100)
		return loaded(t, s), end
	}
	for i, f := range []func(api.Expr) (*world.World, any){eval, inCall, inStep, inRun} {
		v, x := f(a)
		w, y := f(b)
		if !reflect.DeepEqual(x, y) || !sameState(v, w) {
			t.Errorf("%s, way %d: %v without type arguments, %v with them", where, i, x, y)
		}
	}
}
