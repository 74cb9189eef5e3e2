package world_test

import (
	"slices"
	"strings"
	"testing"

	"hackamore/api"
	"hackamore/internal/pony"
	. "hackamore/world"
)

// TestNil: methods of nil return ErrArg, or zero values.
func TestNil(t *testing.T) {
	var w *World
	v := u8(1)
	for name, e := range map[string]func() (any, api.Errno){
		"Entity": func() (any, api.Errno) { x, e := w.Entity("Env"); return x, e }, "Method": func() (any, api.Errno) { x, e := w.Method("Env", "x"); return x, e },
		"Take": func() (any, api.Errno) { x, e := w.Take(0); return x, e }, "Send": func() (any, api.Errno) { return 0, w.Send(api.Message{}) }, "Spawn": func() (any, api.Errno) { x, e := w.Spawn("Out"); return x, e },
		"Make": func() (any, api.Errno) { x, e := w.Make(0, "Env"); return x, e }, "Text": func() (any, api.Errno) { x, e := w.Text(0, "x"); return x, e }, "Array": func() (any, api.Errno) { x, e := w.Array(0, "Array[]", nil); return x, e },
		"Get": func() (any, api.Errno) { x, e := w.Get(v, "x"); return x, e }, "Set": func() (any, api.Errno) { x, e := w.Set(v, "x", v); return x, e }, "Drop": func() (any, api.Errno) { return 0, w.Drop(0) },
		"Remove": func() (any, api.Errno) { return 0, w.Remove(0) }, "Show": func() (any, api.Errno) { x, e := w.Show(v); return x, e }, "Call": func() (any, api.Errno) {
			x, raised, e := w.Call(0, v, "string", nil)
			if raised {
				t.Error("Call raised an error")
			}
			return x, e
		},
	} {
		x, e := e()
		if e != api.ErrArg || !alike(x, x) {
			t.Errorf("%s: error %d", name, e)
		}
		switch x := x.(type) {
		case api.Value:
			if !alike(x, api.Value{}) {
				t.Errorf("%s: %v", name, x)
			}
		case string:
			if x != "" {
				t.Errorf("%s: %q", name, x)
			}
		}
	}
	_, _, race := w.Race()
	if n, ok := w.Choose(1); n != 0 || ok || race || len(w.Ready())+len(w.Paths()) > 0 || w.Type(v) != "" || w.Is(v, pony.Type("U8 val")) || w.Dump() != "" || !alike(w.State(), State{}) {
		t.Error("nil has something")
	}
}

func TestMethod(t *testing.T) {
	f := func(name string, params ...string) api.Method { return method(api.Fun, name, params...) }
	p := program(
		provides(entity(api.Class, "main.A", "", f("own"), f("own", "U8 val")), "main.T val", "(main.U val & main.V val)", "main.V val"),
		provides(entity(api.Trait, "main.T", "", f("t"), f("both")), "main.W val", "main.A val"),
		provides(entity(api.Trait, "main.U", "", f("u"))),
		provides(entity(api.Trait, "main.V", "", f("v"), f("both", "U8 val"), f("w", "U8 val"), f("own", "U8 val", "U8 val")), "main.Nope val", "main.V val"),
		provides(entity(api.Trait, "main.W", "", f("w")), "main.T val"),
		entity(api.Class, "", "", f("nameless")),
	)
	w := begun(t, p)
	for _, c := range []struct {
		typ, name string
		params    int // -1: none
	}{
		{"main.A", "own", 0}, {"main.A", "t", 0}, {"main.A", "both", 0}, {"main.A", "v", 0}, {"main.A", "w", 0}, {"main.A", "u", -1}, {"main.A", "x", -1}, {"main.V", "w", 1}, {"main.V", "x", -1},
		{"main.W", "own", 0}, {"main.T", "v", 0}, {"main.Nope", "own", -1}, {"Nope", "own", -1}, {"", "nameless", 0}, {"", "own", -1}, {"main.A", "", -1}, {"main.Main", "create", 1},
	} {
		m, e := w.Method(c.typ, c.name)
		if e == api.OK && (m.Name != c.name || len(m.Params) != c.params) || e == api.OK != (c.params >= 0) || e != api.OK && (e != ErrMethod || !alike(m, api.Method{})) {
			t.Errorf("%s.%s: %v, error %d", c.typ, c.name, m, e)
		}
	}
	for _, x := range p {
		if got, e := w.Entity(x.Name); e != api.OK || !alike(got, x) {
			t.Errorf("%s: %v, error %d", x.Name, got, e)
		}
	}
	if got, e := w.Entity("main.B"); e != ErrMethod || !alike(got, api.Entity{}) {
		t.Errorf("%v, error %d", got, e)
	}
}

func TestMake(t *testing.T) {
	odd := entity(api.Class, "Array[U8 val]", "x: U8 val")
	text := cells()
	for i := range text {
		if text[i].Name == "String" {
			text[i].Fields = odd.Fields
		}
	}
	w := begun(t, append(text, odd, api.Entity{Kind: api.Class}))
	gone := must(t)(w.Spawn("main.Act"))
	w.Remove(int(gone.Lo))
	n := len(w.State().Cells)
	for i, c := range []struct {
		actor int
		typ   string
		want  api.Errno
	}{
		{1, "main.Cell", api.OK}, {0, "Env", api.OK}, {1, "String", api.OK}, {1, "Array[U8 val]", api.OK}, {1, "main.Act", ErrMethod}, {1, "None", ErrMethod}, {1, "Any", ErrMethod}, {1, "Nope", ErrMethod}, {1, "Array[]", ErrMethod}, {1, "", ErrMethod},
		{-1, "Nope", api.ErrNone}, {2, "main.Cell", api.ErrNone}, {3, "main.Cell", api.ErrNone},
	} {
		v, e := w.Make(c.actor, c.typ)
		if e != c.want || e == api.OK && !alike(v, obj(n+i)) || e != api.OK && !alike(v, api.Value{}) {
			t.Errorf("%d: %v, error %d", i, v, e)
		}
	}
	want := []api.Cell{{Type: "main.Cell", Owner: 1, Fields: make([]api.Value, 2)}, {Type: "Env", Fields: make([]api.Value, 3)}, {Type: "String", Owner: 1}, {Type: "Array[U8 val]", Owner: 1}}
	if got := w.State().Cells[n:]; !alike(got, want) {
		t.Errorf("%+v", got)
	}
	right(t, w)
}

func TestTextAndArray(t *testing.T) {
	w := begun(t, cells())
	n := len(w.State().Cells)
	long := strings.Repeat("x", api.MaxSource)
	for i, c := range []struct {
		actor int
		bytes string
		want  api.Errno
	}{{1, "", api.OK}, {0, "\xff\n", api.OK}, {1, long, api.OK}, {1, long + "x", api.ErrLarge}, {2, long + "x", api.ErrNone}, {-1, "", api.ErrNone}} {
		v, e := w.Text(c.actor, c.bytes)
		if e != c.want || e == api.OK && (!alike(v, obj(n+i)) || !alike(w.State().Cells[n+i], api.Cell{Type: "String", Owner: c.actor, Bytes: c.bytes})) || e != api.OK && !alike(v, api.Value{}) {
			t.Errorf("Text %d: %v, error %d", i, v, e)
		}
	}
	n = len(w.State().Cells)
	many := slices.Repeat([]api.Value{truth(1)}, MaxElements)
	for i, c := range []struct {
		actor int
		typ   string
		l     []api.Value
		want  api.Errno
	}{
		{1, "Array[U8 val]", nil, api.OK}, {0, "Array[]", []api.Value{obj(0), tuple(u8(1), u8(2))}, api.OK}, {1, "Array[x]]", many, api.OK},
		{1, "Array[", nil, ErrMethod}, {1, "Array]", nil, ErrMethod}, {1, "array[U8 val]", nil, ErrMethod}, {1, " Array[U8 val]", nil, ErrMethod}, {1, "Array[U8 val] ", nil, ErrMethod}, {1, "", nil, ErrMethod}, {1, "main.Cell", append(many, u8(1)), ErrMethod},
		{1, "Array[U8 val]", append(many, api.Value{}), api.ErrFull}, {1, "Array[U8 val]", []api.Value{u8(1), {}}, ErrBroken}, {1, "Array[U8 val]", []api.Value{obj(99)}, ErrBroken}, {2, "x", nil, api.ErrNone},
	} {
		v, e := w.Array(c.actor, c.typ, c.l)
		if e != c.want || e == api.OK && (!alike(v, obj(n+i)) || !alike(w.State().Cells[n+i], api.Cell{Type: c.typ, Owner: c.actor, Fields: c.l})) || e != api.OK && !alike(v, api.Value{}) {
			t.Errorf("Array %d: %v, error %d", i, v, e)
		}
	}
	right(t, w)
}

// TestFullOfObjects: the room for objects is asked for last.
func TestFullOfObjects(t *testing.T) {
	s := begun(t, cells()).State()
	s.Cells = append(s.Cells, make([]api.Cell, api.MaxCells-1-len(s.Cells))...)
	w := loaded(t, s)
	must(t)(w.Text(1, "the last one"))
	ahead := w.State()
	for name, c := range map[string]struct {
		make func() (api.Value, api.Errno)
		want api.Errno
	}{
		"Make": {func() (api.Value, api.Errno) { return w.Make(1, "main.Cell") }, api.ErrFull}, "Make of nothing": {func() (api.Value, api.Errno) { return w.Make(1, "x") }, ErrMethod},
		"Text": {func() (api.Value, api.Errno) { return w.Text(1, "") }, api.ErrFull}, "a long Text": {func() (api.Value, api.Errno) { return w.Text(1, strings.Repeat("x", 20001)) }, api.ErrLarge},
		"Array": {func() (api.Value, api.Errno) { return w.Array(1, "Array[]", nil) }, api.ErrFull}, "Array of none": {func() (api.Value, api.Errno) { return w.Array(1, "Array[]", make([]api.Value, 1)) }, ErrBroken},
	} {
		if v, e := c.make(); e != c.want || !alike(v, api.Value{}) {
			t.Errorf("%s: %v, error %d", name, v, e)
		}
	}
	for _, c := range []struct {
		v    api.Value
		name string
		args []api.Value
	}{{u8(1), "string", nil}, {unit("None"), "string", nil}, {obj(api.MaxCells - 1), "add", []api.Value{obj(api.MaxCells - 1)}}, {obj(api.MaxCells - 1), "substring", []api.Value{index(0), index(1)}}} {
		if v, raised, e := w.Call(1, c.v, c.name, c.args); e != api.ErrFull || raised || !alike(v, api.Value{}) {
			t.Errorf("%s: %v, error %d", c.name, v, e)
		}
	}
	if v, _, e := w.Call(1, obj(api.MaxCells-1), "string", nil); e != api.OK || !alike(v, obj(api.MaxCells-1)) {
		t.Errorf("string of a String: %v, error %d", v, e)
	}
	unchanged(t, w, ahead)
}

func TestFields(t *testing.T) {
	p := append(cells(), entity(api.Class, "main.Twice", "x: U8 val; x: U8 val; y: U8 val"), entity(api.Class, "Array[U8 val]", "v: U8 val"))
	w := begun(t, p, "a")
	cell, twice := must(t)(w.Make(1, "main.Cell")), must(t)(w.Make(1, "main.Twice"))
	actor := must(t)(w.Spawn("main.Act"))
	list := must(t)(w.Array(1, "Array[U8 val]", []api.Value{u8(1)}))
	for i, c := range []struct {
		v     api.Value
		field string
		x     api.Value
		get   api.Errno // ahead of the Set
		set   api.Errno
		old   api.Value
	}{
		{cell, "v", u8(1), ErrUnset, api.OK, api.Value{}}, {cell, "v", truth(1), api.OK, api.OK, u8(1)}, {cell, "next", cell, ErrUnset, api.OK, api.Value{}}, {cell, "w", u8(1), ErrMethod, ErrMethod, api.Value{}}, {cell, "", u8(1), ErrMethod, ErrMethod, api.Value{}},
		{cell, "v", api.Value{}, api.OK, ErrBroken, api.Value{}}, {cell, "v", obj(99), api.OK, ErrBroken, api.Value{}}, {cell, "w", api.Value{}, ErrMethod, ErrMethod, api.Value{}},
		{twice, "x", u8(2), ErrUnset, api.OK, api.Value{}}, {twice, "x", u8(3), api.OK, api.OK, u8(2)}, {twice, "y", tuple(u8(1), cell), ErrUnset, api.OK, api.Value{}},
		{actor, "n", actor, ErrUnset, api.OK, api.Value{}}, {actor, "v", u8(1), ErrMethod, ErrMethod, api.Value{}}, {act(0), "n", u8(1), ErrMethod, ErrMethod, api.Value{}},
		{obj(0), "v", u8(1), ErrMethod, ErrMethod, api.Value{}}, {list, "v", u8(1), ErrMethod, ErrMethod, api.Value{}}, {u8(1), "v", u8(1), ErrMethod, ErrMethod, api.Value{}}, {unit("None"), "v", u8(1), ErrMethod, ErrMethod, api.Value{}},
		{tuple(cell, cell), "v", u8(1), ErrMethod, ErrMethod, api.Value{}}, {api.Value{}, "v", u8(1), ErrMethod, ErrMethod, api.Value{}}, {obj(99), "v", u8(1), ErrBroken, ErrBroken, api.Value{}}, {act(9), "v", api.Value{}, ErrBroken, ErrBroken, api.Value{}},
	} {
		ahead := w.State()
		v, e := w.Get(c.v, c.field)
		if e != c.get || e == api.OK && c.set == api.OK && !alike(v, c.old) || e != api.OK && !alike(v, api.Value{}) {
			t.Errorf("Get %d: %v, error %d", i, v, e)
		}
		old, e := w.Set(c.v, c.field, c.x)
		if e != c.set || !alike(old, c.old) {
			t.Errorf("Set %d: %v, error %d", i, old, e)
		}
		if e != api.OK {
			unchanged(t, w, ahead)
		} else if v, e := w.Get(c.v, c.field); e != api.OK || !alike(v, c.x) {
			t.Errorf("Get behind Set %d: %v, error %d", i, v, e)
		}
	}
	right(t, w)
}

func TestTypeAndIs(t *testing.T) {
	p := append(program(
		provides(entity(api.Class, "main.C", "", method(api.Fun, "m")), "main.T val"), entity(api.Trait, "main.T", ""), entity(api.Interface, "main.I", "", method(api.Fun, "m")),
		entity(api.Class, "main.D", ""), entity(api.Primitive, "main.P", ""),
	), entity(api.Class, "main.Box[U8 val]", ""))
	w := begun(t, p, "a")
	c, d := must(t)(w.Make(1, "main.C")), must(t)(w.Make(1, "main.D"))
	box := must(t)(w.Make(1, "main.Box[U8 val]"))
	list := must(t)(w.Array(1, "Array[U8 val]", nil))
	gone := must(t)(w.Make(1, "main.C"))
	w.Drop(int(gone.Lo))
	pair := tuple(u8(1), c)
	typ := func(s string) api.Type { return pony.Type(s) }
	for _, x := range []struct {
		v       api.Value
		typ     string
		is, not string
	}{
		{truth(1), "Bool", "Bool val; Bool ref; Bool tag!; (U8 val | Bool val); Any tag; (Any tag & Bool val)", "U8 val; None val; (Any tag & U8 val)"},
		{u8(1), "U8", "U8 val; U8 iso; (this -> U8 val); (this -> (None val | U8 val)); Any val", "U16 val; U8[None val] val; $A val; this val; (this -> U16 val)"},
		{unit("main.P"), "main.P", "main.P val; (main.P val | None val)", "None val; main.C val"}, {unit("Nope"), "Nope", "", "Nope val; Any tag"},
		{c, "main.C", "main.C ref; main.C iso!; main.T box; main.I ref; (main.T val & main.I val); Any tag; (main.D val | main.I val)", "main.D ref; (main.T val & main.D val); (main.C val, main.C val)"},
		{d, "main.D", "main.D val; Any tag", "main.C val; main.T val; main.I val"}, {gone, "", "", "main.C val; Any tag"},
		{box, "main.Box[U8 val]", `"main.Box[U8 val]" ref; Any tag`, "main.Box[U8 val] ref; main.Box ref"}, {list, "Array[U8 val]", `"Array[U8 val]" ref; Any tag`, `"Array[U16 val]" ref; main.C val`},
		{obj(0), "String", "String val; Any tag", "main.C val"}, {act(0), "Out", "Out tag; Out val; Any tag", "main.Main tag"}, {act(1), "main.Main", "main.Main tag", "Out tag"},
		{pair, "", "(U8 val, main.C ref); (Any tag, Any tag); (None val | (U8 val, main.T val)); ((U8 val, Any tag) & (Any tag, main.C ref)); (this -> (U8 val, main.C val)); ((U8 val | None val), main.I val)", "Any tag; (U8 val, main.D ref); (U8 val, main.C ref, None val); U8 val; ((U8 val, Any tag) & U8 val)"},
		{tuple(u8(1), pair), "", "(U8 val, (U8 val, main.C val))", "(U8 val, U8 val, main.C val); (U8 val, main.C val)"}, {api.Value{}, "", "", "Any tag; None val; U8 val"},
		{obj(99), "", "", "Any tag"}, {obj(-1), "", "", "Any tag"}, {act(99), "", "", "Any tag"}, {api.Value{Kind: 6}, "", "", "Any tag"}, {api.Value{Kind: -1}, "", "", "Any tag"},
		{api.Value{Kind: u8(0).Kind, Lo: 999}, "U8", "", "U8 val; Any tag"}, {tuple(u8(1)), "", "", "Any tag"}, {truth(7), "Bool", "", "Bool val"},
	} {
		if got := w.Type(x.v); got != x.typ {
			t.Errorf("the type of %v is %q", x.v, got)
		}
		for list, want := range map[string]bool{x.is: true, x.not: false} {
			for _, s := range strings.Split(list, "; ") {
				if s != "" && w.Is(x.v, typ(s)) != want {
					t.Errorf("%v is %s: not %v", x.v, s, want)
				}
			}
		}
	}
	name := typ("U8 val")
	for i, x := range []struct {
		t    api.Type
		want bool
	}{
		{api.Type{}, false}, {api.Type{Kind: 99, Args: []api.Type{name}}, false}, {api.Type{Kind: api.TypeUnion}, false}, {api.Type{Kind: api.TypeUnion, Args: []api.Type{name}}, true}, {api.Type{Kind: api.TypeBoth, Args: []api.Type{name}}, true},
		{api.Type{Kind: api.TypeArrow, Args: []api.Type{name}}, false}, {api.Type{Kind: api.TypeArrow, Args: []api.Type{{}, name, {}}}, true}, {api.Type{Kind: api.TypeArrow}, false}, {api.Type{Kind: api.TypeName, Name: "U8"}, false}, // no capability: it is an error
		{api.Type{Kind: api.TypeUnion, Args: []api.Type{{Kind: 99}, name}}, true}, {api.Type{Kind: api.TypeTuple}, false}, {api.Type{Kind: api.TypeTuple, Args: []api.Type{name}}, false},
	} {
		if got := w.Is(u8(1), x.t); got != x.want {
			t.Errorf("%d: %v", i, got)
		}
	}
}

func TestSame(t *testing.T) {
	l := []api.Value{{}, truth(0), truth(1), u8(0), u8(1), index(1), obj(0), obj(1), act(0), act(1), unit("A"), unit("B"), tuple(u8(1), u8(2)), tuple(u8(2), u8(1)), tuple(u8(1), u8(2), u8(3)), tuple(u8(1), tuple(u8(1), u8(2))), tuple(),
		{Kind: u8(0).Kind, Hi: 1}, {Kind: u8(0).Kind, Name: "x"}, {Kind: u8(0).Kind, Lo: 1, Kids: []api.Value{{}}}}
	for i, a := range l {
		for j, b := range l {
			if Same(a, b) != (i == j) {
				t.Errorf("%v and %v", a, b)
			}
		}
	}
	if !Same(tuple(u8(1), tuple(obj(1), act(1))), tuple(u8(1), tuple(obj(1), act(1)))) || !Same(api.Value{Kids: []api.Value{}}, api.Value{}) {
		t.Error("two that are equal")
	}
}

func TestDropAndRemove(t *testing.T) {
	w := begun(t, cells())
	actor := must(t)(w.Spawn("main.Act"))
	cell := must(t)(w.Make(2, "main.Cell"))
	for _, n := range []int{-1, 3, 1 << 40} {
		if e := w.Drop(n); e != api.ErrNone {
			t.Errorf("Drop of %d: error %d", n, e)
		}
		if e := w.Remove(n); e != api.ErrNone {
			t.Errorf("Remove of %d: error %d", n, e)
		}
	}
	if e := w.Remove(1); e != api.ErrState { // it has its first message
		t.Errorf("error %d", e)
	}
	for _, want := range []api.Errno{api.OK, api.ErrNone} {
		if e := w.Drop(int(cell.Lo)); e != want {
			t.Errorf("Drop: error %d, not %d", e, want)
		}
		if e := w.Remove(int(actor.Lo)); e != want {
			t.Errorf("Remove: error %d, not %d", e, want)
		}
	}
	s := w.State()
	if !alike(s.Actors[2], Actor{}) || !alike(s.Cells[2], api.Cell{}) {
		t.Errorf("%v %v", s.Actors[2], s.Cells[2])
	}
	if _, e := w.Get(cell, "v"); e != ErrBroken {
		t.Errorf("error %d", e)
	}
	if v := must(t)(w.Spawn("main.Act")); v.Lo != 3 { // numbers are not given twice
		t.Errorf("%v", v)
	}
	if v := must(t)(w.Make(1, "main.Cell")); v.Lo != 3 {
		t.Errorf("%v", v)
	}
	right(t, w)
	if n := len(strings.Split(w.Dump(), "\n")); n != 5 {
		t.Errorf("%d lines: %s", n, w.Dump())
	}
}
