package world_test

import (
	"fmt"
	"slices"
	"strings"
	"testing"

	"hackamore/api"
	"hackamore/cap"
	"hackamore/internal/pony"
	"hackamore/internal/sample"
	. "hackamore/world"
)

// kinds has a class with a field of each capability, another one that provides a trait, and more entities.
func kinds(more ...api.Entity) []api.Entity {
	return program(append([]api.Entity{
		entity(api.Class, "main.X", "i: main.Y iso; t: main.Y trn; r: main.Y ref; v: main.Y val; b: main.Y box; g: main.Y tag"),
		provides(entity(api.Class, "main.Y", ""), "main.T val"), entity(api.Trait, "main.T", ""), entity(api.Interface, "main.I", ""), entity(api.Class, "main.Z", "x: main.X ref"),
		entity(api.Class, "main.Box[U8 val]", "y: main.Y ref"),
	}, more...)...)
}

func fieldless(typ string, n int) api.Cell { return api.Cell{Type: typ, Fields: make([]api.Value, n)} }

// told returns paths as text.
func told(l []Path) string {
	var out []string
	for _, p := range l {
		s := fmt.Sprintf("%d %s", p.Cell, cap.Name(p.Cap))
		if p.Message >= 0 {
			s = fmt.Sprintf("message %d: %s", p.Message, s)
		}
		out = append(out, s)
	}
	return strings.Join(out, ", ")
}

// TestSeen: what is seen of a value in a field of an actor, by the field's type. The objects 0 and 1 are an X and a Y.
func TestSeen(t *testing.T) {
	x, y := obj(0), obj(1)
	for _, c := range []struct {
		typ  string
		v    api.Value
		want string
	}{
		{"main.X iso", x, "0 iso"}, {"main.X iso^", x, "0 iso"}, {"main.X iso!", x, "0 tag"}, {"main.X trn", x, "0 trn"}, {"main.X trn!", x, "0 box"}, {"main.X trn^", x, "0 trn"}, {"main.X ref", x, "0 ref"}, {"main.X ref!", x, "0 ref"}, {"main.X val", x, "0 val"}, {"main.X box", x, "0 box"}, {"main.X tag", x, "0 tag"},
		{"main.Y ref", x, ""}, {"main.T val", y, "1 val"}, {"main.T val", x, ""}, {"main.I box", x, "0 box"}, {"Any tag", y, "1 tag"}, {"main.X ref", u8(1), ""}, {"Any ref", act(1), ""}, {"Any ref", unit("None"), ""}, {"Any ref", api.Value{}, ""}, {"Any ref", tuple(x, y), ""},
		{"(main.X ref | None val)", x, "0 ref"}, {"(main.X ref | None val)", unit("None"), ""}, {"(main.X ref | main.X box)", x, "0 box"}, {"(main.X ref | main.X val)", x, "0 ref, 0 val"}, {"(main.X iso | Any tag)", x, "0 tag"}, {"(main.X iso | main.X ref)", x, "0 ref"}, {"(main.X iso | main.X trn)", x, "0 trn"},
		{"(main.X trn | main.X ref | main.X val)", x, "0 ref, 0 val"}, {"(main.X ref | (main.X val | main.X box))", x, "0 box"}, {"(main.X ref | main.Y box)", x, "0 ref"}, {"(main.Y ref | main.T box | main.I val)", y, "1 box"}, {"(main.X iso! | main.X iso)", x, "0 tag"},
		{"(main.Y ref & main.T box)", y, "1 ref, 1 box"}, {"(main.Y ref & main.X box)", y, "1 ref"}, {"((main.Y ref & main.T box) | None val)", y, "1 box"}, {"(main.Y ref & (main.T box | Any ref))", y, "1 ref, 1 box"},
		{"(main.X ref, main.Y val)", tuple(x, y), "0 ref, 1 val"}, {"(main.X ref, main.X val)", tuple(x, y), "0 ref"}, {"(main.X ref, main.Y val, Any tag)", tuple(x, y), ""}, {"(main.X ref, main.X val)", tuple(x, x), "0 ref, 0 val"}, {"(main.X ref, main.X val)", x, ""},
		{"((main.X ref, main.X box) | None val)", tuple(x, x), "0 box"}, {"((main.X ref, main.Y box) | (main.X val, main.Y ref))", tuple(x, y), "0 ref, 0 val, 1 box"}, {"((main.X ref, U8 val), Any tag)", tuple(tuple(x, u8(1)), y), "0 ref, 1 tag"},
		{"(this -> main.X ref)", x, "0 ref"}, {"(this -> (main.X ref | main.X box))", x, "0 box"}, {"(this val -> main.X ref)", x, "0 ref"}, {"$A", x, ""}, {"this ref", x, ""}, {"main.X[U8 val] ref", x, ""},
	} {
		s := State{Program: kinds(entity(api.Actor, "main.A", "f: "+c.typ)), Actors: []Actor{{Type: "main.A", Fields: []api.Value{c.v}}, {Type: "Out"}}, Cells: []api.Cell{fieldless("main.X", 6), fieldless("main.Y", 0)}}
		if got := told(loaded(t, s).Paths()); got != c.want {
			t.Errorf("%v in %s: %s, not %s", c.v, c.typ, got, c.want)
		}
	}
	odd := kinds(entity(api.Actor, "main.A", "f: main.X ref"))
	for i, typ := range []api.Type{{Kind: api.TypeArrow}, {Kind: api.TypeArrow, Args: pony.Types("main.X ref")}, {Kind: api.TypeUnion}, {Kind: api.TypeBoth}, {Kind: api.TypeTuple}, {}, {Kind: 99, Args: pony.Types("main.X ref")}, {Kind: api.TypeName, Name: "main.X"}, {Kind: api.TypeName, Name: "main.X", Cap: api.CapAny}} {
		odd[len(odd)-1].Fields[0].Type = typ
		s := State{Program: odd, Actors: []Actor{{Type: "main.A", Fields: []api.Value{x}}}, Cells: []api.Cell{fieldless("main.X", 6)}}
		if got := told(loaded(t, s).Paths()); got != "" {
			t.Errorf("%d: %s", i, got)
		}
	}
}

// TestFollowed: what is reached from an object, by the capability with which it is.
func TestFollowed(t *testing.T) {
	for _, c := range []struct{ typ, want string }{
		{"main.X iso", "0 iso, 1 iso, 2 trn, 3 ref, 4 val, 5 box, 6 tag"}, {"main.X trn", "0 trn, 1 iso, 2 trn, 3 ref, 4 val, 5 box, 6 tag"}, {"main.X ref", "0 ref, 1 iso, 2 trn, 3 ref, 4 val, 5 box, 6 tag"},
		{"main.X val", "0 val, 1 val, 2 val, 3 val, 4 val, 5 val, 6 tag"}, {"main.X box", "0 box, 1 tag, 2 box, 3 box, 4 val, 5 box, 6 tag"}, {"main.X tag", "0 tag"}, {"main.X iso!", "0 tag"}, {"main.X trn!", "0 box, 1 tag, 2 box, 3 box, 4 val, 5 box, 6 tag"}, {"main.Y ref", ""},
	} {
		s := State{Program: kinds(entity(api.Actor, "main.A", "f: "+c.typ)), Actors: []Actor{{Type: "Out"}, {Type: "main.A", Fields: []api.Value{obj(0)}}}, Cells: []api.Cell{fieldless("main.X", 6)}}
		for i := range 6 {
			s.Cells[0].Fields[i] = obj(i + 1)
			s.Cells = append(s.Cells, fieldless("main.Y", 0))
		}
		if got := told(loaded(t, s).Paths()); got != c.want {
			t.Errorf("%s: %s, not %s", c.typ, got, c.want)
		}
	}
}

// TestElements: the element type stands in the name of an Array, as names of reified programs are.
func TestElements(t *testing.T) {
	long := "Array[" + strings.Repeat("A", 300) + " val]"
	for _, c := range []struct{ name, capability, want string }{
		{"Array[main.Y ref]", "ref", "0 ref, 1 ref"}, {"Array[main.Y ref]", "val", "0 val, 1 val"}, {"Array[main.Y iso]", "box", "0 box, 1 tag"}, {"Array[main.Y ref]", "tag", "0 tag"}, {"Array[main.Y iso]", "iso", "0 iso, 1 iso"}, {"Array[main.X ref]", "ref", "0 ref"},
		{"Array[(main.Y ref | None val)]", "ref", "0 ref, 1 ref"}, {"Array[(main.Y ref | main.T box)]", "ref", "0 ref, 1 box"}, {"Array[main.Y val, main.X ref]", "ref", "0 ref, 1 val"}, {"Array[Any tag]", "ref", "0 ref, 1 tag, 2 tag, 3 tag"},
		{"Array[]", "ref", "0 ref"}, {"Array[x]", "ref", "0 ref"}, {"Array[main.Y ref] ref]", "ref", "0 ref"}, {long, "ref", ""}, {"Array[$A]", "ref", "0 ref"},
		{"Array[main.Box[U8 val] ref]", "ref", "0 ref, 1 ref, 2 ref"}, {"Array[(main.Box[U8 val] val | None val)]", "ref", "0 ref, 1 val, 2 val"}, {"Array[(this -> main.Box[U8 val] val)]", "box", "0 box, 1 val, 2 val"}, {"Array[(main.Box[U8 val] ref & Any tag)]", "ref", "0 ref, 1 ref, 1 tag, 2 ref, 2 tag, 3 tag"},
		{"Array[main.Box[U16 val] ref]", "ref", "0 ref"}, {`Array["main.Box[U8 val]" ref]`, "ref", "0 ref, 1 ref, 2 ref"}, {"Array[(main.Y ref, main.Box[U8 val] iso^)]", "ref", "0 ref, 1 ref, 2 iso"}, {"Array[Array[main.Y ref] val]", "ref", "0 ref, 1 val, 3 val"},
	} {
		s := State{Program: kinds(entity(api.Actor, "main.A", "f: Any "+c.capability)), Actors: []Actor{{Type: "main.A", Fields: []api.Value{obj(0)}}}}
		l := []api.Value{obj(1), u8(1), obj(2), obj(3), tuple(obj(1), obj(2))}
		if strings.Contains(c.want, "2") && strings.Contains(c.name, "Box") && !strings.Contains(c.name, ", ") {
			l = l[2:3] // the Box has the Y as a ref
		}
		if strings.Contains(c.name, "&") {
			l = append(l, obj(1), obj(3))
		}
		s.Cells = []api.Cell{{Type: c.name, Fields: l}, fieldless("main.Y", 0), {Type: "main.Box[U8 val]", Fields: []api.Value{obj(1)}}, {Type: "Array[main.Y ref]", Fields: []api.Value{obj(1)}}}
		if got := told(loaded(t, s).Paths()); got != c.want {
			t.Errorf("%s %s: %s, not %s", c.name, c.capability, got, c.want)
		}
	}
}

// TestMessagePaths: what messages reach, by the parameters of their methods.
func TestMessagePaths(t *testing.T) {
	m := func(name string, l ...api.Value) api.Message {
		return api.Message{From: -1, To: 1, Name: name, Args: l}
	}
	actor := provides(entity(api.Actor, "main.A", "f: main.X ref", method(api.Be, "go", "main.Y iso", "main.Y val"), method(api.Fun, "go", "main.Y tag", "main.Y tag"), method(api.New, "new", "(main.Y ref, Any val)")), "main.B tag")
	p := kinds(actor, entity(api.Trait, "main.B", "", method(api.Be, "provided", "main.Y box")))
	s := State{Program: p, Cells: []api.Cell{fieldless("main.Y", 0), fieldless("main.Z", 1), fieldless("main.Y", 0)}, Actors: []Actor{{}, {Type: "main.A", Fields: make([]api.Value, 1), Mail: []api.Message{
		m("go", obj(0), obj(0)), m("go", obj(0)), m("go", obj(0), obj(0), obj(0)), m("new", tuple(obj(2), obj(1))), m("provided", obj(2)), m("nope", obj(0)), m("go", obj(1), obj(2)),
	}}}}
	w := loaded(t, s)
	if got, want := told(w.Paths()), "message 0: 0 iso, message 0: 0 val, message 3: 1 val, message 3: 2 ref, message 4: 2 box, message 6: 2 val"; got != want {
		t.Errorf("%s, not %s", got, want)
	}
	a, b, ok := w.Race()
	if want := (Path{1, 3, 2, api.Ref}); !ok || a != want || b != (Path{1, 4, 2, api.Box}) {
		t.Errorf("%v, %v, %v", a, b, ok)
	}
}

// TestRace: who writes, and who reads.
func TestRace(t *testing.T) {
	p := kinds(entity(api.Actor, "main.A", "i: Any iso; t: Any trn; r: Any ref; v: Any val; b: Any box; g: Any tag", method(api.Be, "go", "main.X ref")))
	hold := func(n int, caps ...int) Actor {
		a := Actor{Type: "main.A", Fields: make([]api.Value, 6)}
		for _, c := range caps {
			a.Fields[c-1] = obj(n)
		}
		return a
	}
	cells := []api.Cell{fieldless("main.Y", 0), fieldless("main.X", 6)}
	for i := api.Iso; i <= api.Tag; i++ {
		for j := api.Iso; j <= api.Tag; j++ {
			w := loaded(t, State{Program: p, Cells: cells, Actors: []Actor{hold(0, i), {}, hold(0, j)}})
			x, y, ok := w.Race()
			first, second := Path{0, -1, 0, i}, Path{2, -1, 0, j}
			if !cap.Writes(i) {
				first, second = second, first
			}
			want := (cap.Writes(i) || cap.Writes(j)) && i != api.Tag && j != api.Tag
			if ok != want || ok && (x != first || y != second) || !ok && (x != Path{} || y != Path{}) {
				t.Errorf("%s and %s: %v, %v, %v", cap.Name(i), cap.Name(j), x, y, ok)
			}
		}
	}
	for i, c := range []struct {
		actors []Actor
		want   string
	}{
		{[]Actor{hold(0, api.Ref, api.Iso, api.Box)}, ""},                                                          // of one actor
		{[]Actor{hold(0, api.Ref), hold(1, api.Ref)}, ""},                                                          // of two objects
		{[]Actor{hold(0, api.Tag, api.Box), hold(0, api.Box), hold(0, api.Ref)}, "{2 -1 0 3} {0 -1 0 5}"},          // the second one may be ahead
		{[]Actor{hold(0, api.Tag, api.Ref, api.Iso), hold(0, api.Tag), hold(0, api.Ref)}, "{0 -1 0 1} {2 -1 0 3}"}, // the first one of several
		{[]Actor{hold(1, api.Val), hold(0, api.Ref), hold(0, api.Val), hold(1, api.Ref)}, "{1 -1 0 3} {2 -1 0 4}"}, // the first one that writes
		{[]Actor{hold(0, api.Tag), hold(0, api.Val), hold(0, api.Val)}, ""}, {[]Actor{hold(1, api.Ref)}, ""},       // nobody else
	} {
		x, y, ok := loaded(t, State{Program: p, Cells: cells, Actors: c.actors}).Race()
		got := fmt.Sprint(x, y)
		if !ok {
			got = ""
		}
		if got != c.want {
			t.Errorf("%d: %s, not %s", i, got, c.want)
		}
	}
	a := hold(1, api.Ref)
	a.Mail = []api.Message{{From: -1, Name: "go", Args: []api.Value{obj(1)}}, {From: -1, Name: "go", Args: []api.Value{obj(0)}}}
	if x, y, ok := loaded(t, State{Program: p, Cells: cells, Actors: []Actor{a}}).Race(); !ok || x != (Path{0, -1, 1, api.Ref}) || y != (Path{0, 0, 1, api.Ref}) {
		t.Errorf("an actor and its message: %v, %v, %v", x, y, ok)
	}
}

// model finds paths in another way: by asking for all of them again and again.
type model struct {
	w *World
	s State
}

// seen returns pairs of an object and a capability.
func (m model) seen(v api.Value, t api.Type, origin int) map[[2]int]bool {
	out := map[[2]int]bool{}
	add := func(l map[[2]int]bool) {
		for x := range l {
			out[x] = true
		}
	}
	switch t.Kind {
	case api.TypeName:
		c := t.Cap
		if t.Mark == api.Aliased {
			c = map[int]int{api.Iso: api.Tag, api.Trn: api.Box, api.Ref: api.Ref, api.Val: api.Val, api.Box: api.Box, api.Tag: api.Tag}[c]
		}
		if seen, ok := cap.View(origin, c); ok && v.Kind == api.ValObject && m.w.Is(v, t) {
			out[[2]int{int(v.Lo), seen}] = true
		}
	case api.TypeUnion:
		all := map[[2]int]bool{}
		for _, a := range t.Args {
			for x := range m.seen(v, a, origin) {
				all[x] = true
			}
		}
		for x := range all {
			isLeast := true
			for y := range all {
				isLeast = isLeast && !(x[0] == y[0] && x[1] != y[1] && cap.Sub(x[1], y[1]))
			}
			if isLeast {
				out[x] = true
			}
		}
	case api.TypeBoth:
		for _, a := range t.Args {
			add(m.seen(v, a, origin))
		}
	case api.TypeArrow:
		add(m.seen(v, t.Args[1], origin))
	case api.TypeTuple:
		if v.Kind == api.ValTuple && len(v.Kids) == len(t.Args) {
			for i := range v.Kids {
				add(m.seen(v.Kids[i], t.Args[i], origin))
			}
		}
	}
	return out
}

func (m model) fields(typ string) []api.Field {
	e, _ := m.w.Entity(typ)
	return e.Fields
}

func (m model) paths() []Path {
	found := map[Path]bool{}
	add := func(actor, message int, v api.Value, t api.Type, origin int) {
		for x := range m.seen(v, t, origin) {
			found[Path{actor, message, x[0], x[1]}] = true
		}
	}
	for i, a := range m.s.Actors {
		for j, f := range m.fields(a.Type) {
			add(i, -1, a.Fields[j], f.Type, api.Ref)
		}
		for n, x := range a.Mail {
			if method, e := m.w.Method(a.Type, x.Name); e == api.OK && len(method.Params) == len(x.Args) {
				for j, v := range x.Args {
					add(i, n, v, method.Params[j].Type, api.Ref)
				}
			}
		}
	}
	for n := -1; n != len(found); {
		n = len(found)
		var l []Path
		for p := range found {
			l = append(l, p)
		}
		for _, p := range l {
			origin := p.Cap
			if origin == api.Iso || origin == api.Trn {
				origin = api.Ref
			}
			c := m.s.Cells[p.Cell]
			if element, ok := strings.CutPrefix(c.Type, "Array["); ok && p.Cap != api.Tag {
				for _, v := range c.Fields {
					add(p.Actor, p.Message, v, pony.Type(strings.TrimSuffix(element, "]")), origin)
				}
			} else if p.Cap != api.Tag {
				for j, f := range m.fields(c.Type) {
					add(p.Actor, p.Message, c.Fields[j], f.Type, origin)
				}
			}
		}
	}
	var l []Path
	for p := range found {
		l = append(l, p)
	}
	slices.SortFunc(l, func(p, q Path) int {
		return slices.Compare([]int{p.Actor, p.Message, p.Cell, p.Cap}, []int{q.Actor, q.Message, q.Cell, q.Cap})
	})
	return l
}

func (m model) race() (Path, Path, bool) {
	l := m.paths()
	for _, p := range l {
		for _, q := range l {
			if (p.Actor != q.Actor || p.Message != q.Message) && p.Cell == q.Cell && p.Cap <= api.Ref && q.Cap != api.Tag {
				return p, q, true
			}
		}
	}
	return Path{}, Path{}, false
}

// chance makes programs and states by chance.
type chance struct{ pick func(int) int }

func (c chance) typ() string {
	names := []string{"main.X", "main.Y", "main.Z", "main.T", "main.I", "Any", "U8", "None", "String"}
	one := func() string {
		return names[c.pick(len(names))] + " " + cap.Name(api.Iso+c.pick(6)) + []string{"", "", "", "!", "^"}[c.pick(5)]
	}
	switch c.pick(9) {
	case 0:
		return "(" + one() + " | " + one() + ")"
	case 1:
		return "(" + one() + ", " + one() + ")"
	case 2:
		return "(" + one() + " | (" + one() + ", " + one() + ") | " + one() + ")"
	case 3:
		return "(" + one() + " & " + one() + ")"
	case 4:
		return "(this -> (" + one() + " | " + one() + "))"
	case 5:
		return `"Array[` + one() + `]" ` + cap.Name(api.Iso+c.pick(6))
	}
	return one()
}

func (c chance) fields() string {
	var l []string
	for i := range c.pick(4) {
		l = append(l, fmt.Sprintf("f%d: %s", i, c.typ()))
	}
	return strings.Join(l, "; ")
}

func (c chance) value(cells, actors int) api.Value {
	switch c.pick(10) {
	case 0:
		return u8(uint64(c.pick(256)))
	case 1:
		return act(c.pick(actors))
	case 2:
		return tuple(c.value(cells, actors), c.value(cells, actors))
	case 3:
		return unit("None")
	}
	return obj(c.pick(cells))
}

func (c chance) values(n, cells, actors int, none bool) []api.Value {
	var l []api.Value
	for range n {
		v := api.Value{}
		if !none || c.pick(6) > 0 {
			v = c.value(cells, actors)
		}
		l = append(l, v)
	}
	return l
}

// state returns a state that is right, whose values need not be of the types of their fields.
func (c chance) state() State {
	p := program(
		entity(api.Class, "main.X", c.fields()), provides(entity(api.Class, "main.Y", c.fields()), "main.T val"), entity(api.Class, "main.Z", c.fields(), method(api.Fun, "m")),
		entity(api.Trait, "main.T", ""), entity(api.Interface, "main.I", "", method(api.Fun, "m")),
		entity(api.Actor, "main.A", c.fields(), method(api.Be, "a", c.typ()), method(api.Be, "b", c.typ(), c.typ())), entity(api.Actor, "main.B", c.fields(), method(api.Be, "a", c.typ())),
	)
	cells, actors := 1+c.pick(12), 1+c.pick(4)
	s := State{Program: p}
	for range cells {
		e := p[len(p)-7+c.pick(3)]
		x := api.Cell{Type: e.Name, Owner: c.pick(actors), Fields: c.values(len(e.Fields), cells, actors, true)}
		switch c.pick(6) {
		case 0:
			x = api.Cell{Type: "String", Bytes: "s"}
		case 1, 2:
			x = api.Cell{Type: "Array[" + c.typ() + "]", Fields: c.values(c.pick(3), cells, actors, false)}
		}
		s.Cells = append(s.Cells, x)
	}
	for i := range actors {
		e := p[len(p)-2+c.pick(2)]
		a := Actor{Type: e.Name, Fields: c.values(len(e.Fields), cells, actors, true)}
		for range c.pick(3) {
			a.Mail = append(a.Mail, api.Message{From: -1, To: i, Name: []string{"a", "b"}[c.pick(2)], Args: c.values(1+c.pick(2), cells, actors, false)})
		}
		s.Actors = append(s.Actors, a)
	}
	return s
}

// TestPathsModel checks P17.6, and the paths of states by chance against those that are found in another way.
func TestPathsModel(t *testing.T) {
	c := chance{sample.Source(3)}
	races, all := 0, 0
	for range 3000 {
		s := c.state()
		w := loaded(t, s)
		m := model{w, s}
		got, want := w.Paths(), m.paths()
		if !slices.Equal(got, want) {
			t.Fatalf("%+v\n%v\nnot %v", s.Cells, got, want)
		}
		p, q, ok := w.Race()
		if x, y, race := m.race(); p != x || q != y || ok != race {
			t.Fatalf("%v %v %v, not %v %v %v", p, q, ok, x, y, race)
		}
		if ok {
			races++
		}
		all += len(got)
		checkDropped(t, s, got)
	}
	if races < 80 || all < 2000 {
		t.Errorf("%d paths, %d races", all, races)
	}
}

// mentions reports whether a value has an object in it.
func mentions(l []api.Value, cell int) bool {
	return slices.ContainsFunc(l, func(v api.Value) bool {
		return v.Kind == api.ValObject && v.Lo == uint64(cell) || mentions(v.Kids, cell)
	})
}

// checkDropped: Drop of an object that no field and no message has changes no path, and no text.
func checkDropped(t *testing.T, s State, paths []Path) {
	t.Helper()
	w := loaded(t, s)
	dump := w.Dump()
	for i := range s.Cells {
		has := slices.ContainsFunc(s.Cells, func(c api.Cell) bool { return mentions(c.Fields, i) })
		for _, a := range s.Actors {
			has = has || mentions(a.Fields, i) || slices.ContainsFunc(a.Mail, func(m api.Message) bool { return mentions(m.Args, i) })
		}
		if has {
			continue
		}
		if e := w.Drop(i); e != api.OK {
			t.Fatalf("error %d", e)
		}
		if !slices.Equal(w.Paths(), paths) || w.Dump() != dump || Check(w.State()) != api.OK {
			t.Fatalf("Drop of %d changed paths, or texts", i)
		}
	}
}

// TestReadOnly checks P17.6: from val nothing but val and tag is reached, and from a tag nothing.
func TestReadOnly(t *testing.T) {
	c := chance{sample.Source(4)}
	for range 2000 {
		s := c.state()
		held := 1 + c.pick(2)
		for i := range s.Program {
			for j := range s.Program[i].Fields {
				if s.Program[i].Kind == api.Actor {
					s.Program[i].Fields[j].Type = pony.Type([]string{"", "Any val", "Any tag"}[held])
				}
			}
		}
		for i := range s.Actors {
			s.Actors[i].Mail = nil
		}
		for _, p := range loaded(t, s).Paths() {
			direct := false
			for _, v := range s.Actors[p.Actor].Fields {
				direct = direct || v.Kind == api.ValObject && v.Lo == uint64(p.Cell)
			}
			if p.Cap != api.Val && p.Cap != api.Tag || held == 2 && (p.Cap != api.Tag || !direct) {
				t.Fatalf("%v", p)
			}
		}
	}
}
