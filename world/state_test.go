package world_test

import (
	"slices"
	"strconv"
	"strings"
	"testing"

	"hackamore/api"
	"hackamore/internal/pony"
	. "hackamore/world"
)

// TestNew: the beginning, which is the chapter's example.
func TestNew(t *testing.T) {
	w := begun(t, cells(), "a", "b")
	s := w.State()
	text := func(b string) api.Cell { return api.Cell{Type: "String", Owner: 1, Bytes: b} }
	want := State{
		Program: cells(),
		Actors:  []Actor{{Type: "Out"}, {Type: "main.Main", Mail: []api.Message{{From: -1, To: 1, Name: "create", Args: []api.Value{obj(3)}}}}},
		Cells: []api.Cell{text("a"), text("b"), {Type: "Array[String val]", Owner: 1, Fields: []api.Value{obj(0), obj(1)}},
			{Type: "Env", Owner: 1, Fields: []api.Value{act(0), obj(2), unit("AmbientAuth")}}},
	}
	if !alike(s, want) {
		t.Errorf("%+v", s)
	}
	right(t, w)
	if got, e := w.Show(obj(3)); e != api.OK || got != `Env#0{out=@0, args=Array[String val]#1{"a"#2, "b"#3}, root=AmbientAuth}` {
		t.Errorf("%s, error %d", got, e)
	}
	if l := w.Ready(); !slices.Equal(l, []int{1}) {
		t.Errorf("ready: %v", l)
	}
}

// TestNewFields: actors begin without values; an Env has no root, if there is no such primitive.
func TestNewFields(t *testing.T) {
	p := program()
	p[0].Fields = entity(api.Actor, "", "a: U8 val; b: Bool val").Fields
	p[1].Fields = entity(api.Actor, "", "c: U8 val").Fields
	p[3].Kind = api.Class
	w := begun(t, p)
	s := w.State()
	if len(s.Actors[0].Fields) != 1 || len(s.Actors[1].Fields) != 2 || s.Actors[1].Fields[0].Kind != api.ValNone || s.Cells[1].Fields[2].Kind != api.ValNone || len(s.Cells[0].Fields) != 0 {
		t.Errorf("%+v %+v", s.Actors, s.Cells)
	}
	right(t, w)
}

func TestNewErrors(t *testing.T) {
	change := func(f func(p []api.Entity) []api.Entity) []api.Entity { return f(program()) }
	at := func(i int, f func(e *api.Entity)) []api.Entity {
		p := program()
		f(&p[i])
		return p
	}
	many := program()
	for i := len(many); i < api.MaxUnits; i++ {
		many = append(many, entity(api.Class, "main.C"+strconv.Itoa(i), ""))
	}
	more := append(slices.Clone(many), entity(api.Class, "main.C0", ""))
	twice := append(slices.Clone(more), program()...)
	long := make([]string, api.MaxList)
	for name, c := range map[string]struct {
		p    []api.Entity
		args []string
		want api.Errno
	}{
		"right": {program(), nil, api.OK}, "nothing": {nil, nil, ErrMethod}, "200 entities": {many, nil, api.OK}, "201 entities": {more, nil, api.ErrSize}, "too many, and twice": {twice, nil, api.ErrSize},
		"twice":                          {append(program(), entity(api.Class, "Env", "")), nil, api.ErrTwice},
		"twice, and no main":             {append(program()[1:], entity(api.Class, "Env", "")), nil, api.ErrTwice},
		"two without a name":             {append(program(), api.Entity{}, api.Entity{}), nil, api.ErrTwice},
		"no main":                        {program()[1:], nil, ErrMethod},
		"main is a class":                {at(0, func(e *api.Entity) { e.Kind = api.Class }), nil, ErrMethod},
		"no create":                      {at(0, func(e *api.Entity) { e.Methods = nil }), nil, ErrMethod},
		"create is a function":           {at(0, func(e *api.Entity) { e.Methods[0].Kind = api.Fun }), nil, ErrMethod},
		"create without parameters":      {at(0, func(e *api.Entity) { e.Methods[0].Params = nil }), nil, ErrMethod},
		"create with two":                {at(0, func(e *api.Entity) { e.Methods[0].Params = make([]api.Param, 2) }), nil, ErrMethod},
		"the first create is another":    {at(0, func(e *api.Entity) { e.Methods = []api.Method{method(api.Fun, "create"), e.Methods[0]} }), nil, ErrMethod},
		"create is the second method":    {at(0, func(e *api.Entity) { e.Methods = []api.Method{method(api.Fun, "f"), e.Methods[0]} }), nil, api.OK},
		"create is provided":             {at(0, func(e *api.Entity) { e.Methods, e.Provides = nil, pony.Types("Out tag") }), nil, ErrMethod},
		"no Out":                         {change(func(p []api.Entity) []api.Entity { return slices.Delete(p, 1, 2) }), nil, ErrMethod},
		"Out is a class":                 {at(1, func(e *api.Entity) { e.Kind = api.Class }), nil, ErrMethod},
		"no Env":                         {change(func(p []api.Entity) []api.Entity { return slices.Delete(p, 2, 3) }), nil, ErrMethod},
		"Env is an actor":                {at(2, func(e *api.Entity) { e.Kind = api.Actor }), nil, ErrMethod},
		"Env has two fields":             {at(2, func(e *api.Entity) { e.Fields = e.Fields[:2] }), nil, ErrMethod},
		"Env has four fields":            {at(2, func(e *api.Entity) { e.Fields = append(e.Fields, e.Fields[0]) }), nil, ErrMethod},
		"Env's fields in another order":  {at(2, func(e *api.Entity) { slices.Reverse(e.Fields) }), nil, ErrMethod},
		"Env's fields have other types":  {at(2, func(e *api.Entity) { e.Fields[0].Type = api.Type{} }), nil, api.OK},
		"64 args":                        {program(), long, api.OK},
		"65 args":                        {program(), append(long, ""), api.ErrSize},
		"a long arg":                     {program(), []string{"", strings.Repeat("x", api.MaxSource)}, api.OK},
		"an arg that is too long":        {program(), []string{"", strings.Repeat("x", api.MaxSource+1)}, api.ErrSize},
		"no main, and too many args":     {program()[1:], append(long, ""), ErrMethod},
		"kinds that are none, elsewhere": {append(program(), api.Entity{Kind: 99, Name: "x"}), nil, api.OK},
	} {
		w, e := New(c.p, c.args)
		if e != c.want || (w == nil) != (e != api.OK) {
			t.Errorf("%s: error %d", name, e)
		}
		if w != nil {
			right(t, w)
		}
		if got := Check(State{Program: c.p}); len(c.args) == 0 && got != c.want {
			t.Errorf("%s: Check is %d", name, got)
		}
		if w, got := Load(State{Program: c.p}); len(c.args) == 0 && (got != c.want || (w == nil) != (got != api.OK)) {
			t.Errorf("%s: Load is %d", name, got)
		}
	}
}

// values are right in a world at the beginning of the program of cells, with one argument: objects 0 to 2, actors 0 and 1.
func values() map[string]api.Value {
	return map[string]api.Value{
		"none": {}, "true": truth(1), "false": truth(0), "a number": u8(255), "a great number": {Kind: api.ValNumber + 10, Lo: 1, Hi: 1 << 63},
		"a float": {Kind: api.ValNumber + 13, Lo: 0x7ff8000000000000}, "the first object": obj(0), "the last object": obj(2), "an actor": act(1), "Out": act(0), "a unit": unit("None"), "a number type": unit("U8"),
		"a tuple": tuple(u8(1), truth(1), obj(1)), "tuples in tuples": tuple(tuple(act(0), unit("None")), tuple(u8(1), u8(2))), "100 levels": nest(100),
	}
}

// wrongValues are not right there.
func wrongValues() map[string]api.Value {
	return map[string]api.Value{
		"none with Lo": {Lo: 1}, "none with Hi": {Hi: 1}, "none with a name": {Name: "x"}, "none with kids": {Kids: []api.Value{u8(1), u8(2)}},
		"Bool 2": truth(2), "Bool with Hi": {Kind: api.ValBool, Hi: 1}, "Bool with a name": {Kind: api.ValBool, Name: "x"}, "Bool with kids": {Kind: api.ValBool, Kids: []api.Value{{}}},
		"U8 256": {Kind: u8(0).Kind, Lo: 256}, "U8 with Hi": {Kind: u8(0).Kind, Hi: 1}, "U8 with a name": {Kind: u8(0).Kind, Name: "x"}, "U8 with kids": {Kind: u8(0).Kind, Kids: []api.Value{u8(1)}},
		"an F64 of other bits": {Kind: api.ValNumber + 13, Lo: 0x7ff8000000000001}, "kind 6": {Kind: 6}, "kind 9": {Kind: 9}, "kind 24": {Kind: api.ValNumber + 14}, "kind -1": {Kind: -1},
		"no such object": obj(3), "object -1": obj(-1), "object 2^32": obj(1 << 32), "object with Hi": {Kind: api.ValObject, Hi: 1}, "object with a name": {Kind: api.ValObject, Name: "x"}, "object with kids": {Kind: api.ValObject, Kids: []api.Value{u8(1)}},
		"no such actor": act(2), "actor -1": act(-1), "actor with Hi": {Kind: api.ValActor, Hi: 1}, "actor with a name": {Kind: api.ValActor, Name: "Out"}, "actor with kids": {Kind: api.ValActor, Kids: []api.Value{u8(1)}},
		"unit of nothing": unit("Nope"), "unit of a class": unit("Env"), "unit of an actor": unit("Out"), "unit of an interface": unit("Any"), "unit without a name": unit(""), "unit with Lo": {Kind: api.ValUnit, Name: "None", Lo: 1},
		"unit with Hi": {Kind: api.ValUnit, Name: "None", Hi: 1}, "unit with kids": {Kind: api.ValUnit, Name: "None", Kids: []api.Value{{}}},
		"an empty tuple": tuple(), "a tuple of one": tuple(u8(1)), "a tuple with none": tuple(u8(1), api.Value{}), "a tuple of a wrong one": tuple(u8(1), truth(2)), "a wrong one deep within": tuple(u8(1), tuple(u8(1), obj(9))),
		"tuple with Lo": {Kind: api.ValTuple, Lo: 1, Kids: []api.Value{u8(1), u8(1)}}, "tuple with Hi": {Kind: api.ValTuple, Hi: 1, Kids: []api.Value{u8(1), u8(1)}}, "tuple with a name": {Kind: api.ValTuple, Name: "x", Kids: []api.Value{u8(1), u8(1)}},
		"101 levels": nest(101), "101 levels first": tuple(nest(100), u8(1)),
	}
}

// TestValues: what is right, in fields, arguments and elements.
func TestValues(t *testing.T) {
	place := func(v api.Value) []State {
		base := begun(t, cells(), "x").State()
		field, object, message, element := base, base, base, base
		field.Actors = append(slices.Clone(base.Actors), Actor{Type: "main.Act", Fields: []api.Value{{}, v}})
		object.Cells = append(slices.Clone(base.Cells), api.Cell{Type: "main.Cell", Owner: 1, Fields: []api.Value{v, {}}})
		message.Actors = slices.Clone(base.Actors)
		message.Actors[0].Mail = []api.Message{{From: 1, To: 0, Args: []api.Value{u8(1), v}}}
		element.Cells = append(slices.Clone(base.Cells), api.Cell{Type: "Array[U8 val]", Fields: []api.Value{u8(1), v}})
		return []State{field, object, message, element}
	}
	for name, v := range values() {
		for i, s := range place(v) {
			if e := Check(s); (e == api.OK) != (i < 2 || v.Kind != api.ValNone) || e != api.OK && e != ErrBroken {
				t.Errorf("%s in %d: error %d", name, i, e)
			}
		}
	}
	wrongs := wrongValues()
	delete(wrongs, "no such object") // it is there: the fourth object itself
	delete(wrongs, "no such actor")
	for name, v := range wrongs {
		for i, s := range place(v) {
			if e := Check(s); e != ErrBroken {
				t.Errorf("%s in %d: error %d", name, i, e)
			}
			if w, e := Load(s); e != ErrBroken || w != nil {
				t.Errorf("Load, %s in %d: error %d", name, i, e)
			}
		}
	}
}

// TestSharedTuples: a tuple that has another one twice at each level is looked at in no time.
func TestSharedTuples(t *testing.T) {
	double := func(levels int) api.Value {
		v := u8(1)
		for range levels {
			v = tuple(v, v)
		}
		return v
	}
	w := begun(t, cells())
	cell := must(t)(w.Make(1, "main.Cell"))
	for _, x := range []struct {
		levels int
		want   api.Errno
	}{{60, api.OK}, {100, api.OK}, {101, ErrBroken}, {300, ErrBroken}} {
		v := double(x.levels)
		if _, e := w.Set(cell, "v", v); e != x.want {
			t.Errorf("Set, %d levels: error %d", x.levels, e)
		}
		if x.want == api.OK {
			x.want = api.ErrLarge
		}
		if _, e := w.Show(v); e != x.want {
			t.Errorf("Show, %d levels: error %d", x.levels, e)
		}
	}
	if _, e := w.Show(cell); e != api.ErrDepth { // the tuple has 100 levels, and stands in the object
		t.Errorf("Show: error %d", e)
	}
	inner := double(60)
	outer := func(levels int) api.Value { // the inner tuple stands in it twice, the second time deeper
		v := inner
		for range levels - 1 {
			v = tuple(v, u8(1))
		}
		return tuple(inner, v)
	}
	for levels, want := range map[int]api.Errno{1: api.OK, 39: api.OK, 40: api.OK, 41: ErrBroken, 42: ErrBroken, 60: ErrBroken} {
		if _, e := w.Set(cell, "v", outer(levels)); e != want {
			t.Errorf("Set, %d levels around 60: error %d", levels, e)
		}
		if _, e := w.Set(cell, "v", tuple(inner, outer(levels-1))); e != want {
			t.Errorf("Set, %d levels around 60: error %d", levels, e)
		}
	}
	must(t)(w.Set(cell, "v", double(100)))
	if !Same(double(100), double(100)) || Same(double(100), double(99)) {
		t.Error("Same")
	}
	if s := w.State(); Check(s) != api.OK || w.Dump() == "" || len(w.Paths()) == 0 {
		t.Error("the state is not right")
	}
}

// TestStates: what makes a state wrong.
func TestStates(t *testing.T) {
	base := func() State { return begun(t, cells(), "x").State() } // objects: a String, an Array, the Env
	cell := func(c api.Cell) func(*State) { return func(s *State) { s.Cells = append(s.Cells, c) } }
	actor := func(a Actor) func(*State) { return func(s *State) { s.Actors = append(s.Actors, a) } }
	mail := func(l ...api.Message) func(*State) { return func(s *State) { s.Actors[0].Mail = l } }
	elements := func(n int) []api.Value { return slices.Repeat([]api.Value{u8(1)}, n) }
	for name, c := range map[string]struct {
		change func(*State)
		want   api.Errno
	}{
		"as it is": {func(*State) {}, api.OK}, "nothing but the program": {func(s *State) { *s = State{Program: s.Program} }, api.OK}, "a wrong program": {func(s *State) { s.Program = s.Program[1:] }, ErrMethod},
		"a wrong program, and a wrong state": {func(s *State) { s.Program = s.Program[1:]; s.Actors[0].Type = "x" }, ErrMethod},
		"64 actors":                          {func(s *State) { s.Actors = append(s.Actors, make([]Actor, api.MaxActors-2)...) }, api.OK},
		"65 actors":                          {func(s *State) { s.Actors = append(s.Actors, make([]Actor, api.MaxActors-1)...) }, ErrBroken},
		"20000 objects":                      {func(s *State) { s.Cells = append(s.Cells, make([]api.Cell, api.MaxCells-3)...) }, api.OK},
		"20001 objects":                      {func(s *State) { s.Cells = append(s.Cells, make([]api.Cell, api.MaxCells-2)...) }, ErrBroken},
		"100000 sends":                       {func(s *State) { s.Trace = make([]api.Send, api.MaxFuel) }, api.OK},
		"100001 sends":                       {func(s *State) { s.Trace = make([]api.Send, api.MaxFuel+1) }, ErrBroken},
		"100000 texts":                       {func(s *State) { s.Output = make([]string, api.MaxFuel) }, api.OK},
		"100001 texts":                       {func(s *State) { s.Output = make([]string, api.MaxFuel+1) }, ErrBroken},
		"any sends":                          {func(s *State) { s.Trace = []api.Send{{From: -7, To: 99, Name: strings.Repeat("x", 99)}} }, api.OK},

		"an actor of a class":                 {actor(Actor{Type: "Env", Fields: make([]api.Value, 3)}), ErrBroken},
		"an actor of nothing":                 {actor(Actor{Type: "Nope"}), ErrBroken},
		"an actor with few fields":            {actor(Actor{Type: "main.Act", Fields: make([]api.Value, 1)}), ErrBroken},
		"an actor with many fields":           {actor(Actor{Type: "main.Act", Fields: make([]api.Value, 3)}), ErrBroken},
		"another actor":                       {actor(Actor{Type: "main.Act", Fields: make([]api.Value, 2)}), api.OK},
		"an actor that was taken away":        {actor(Actor{Fields: []api.Value{}, Mail: []api.Message{}}), api.OK},
		"one that was taken away with fields": {actor(Actor{Fields: make([]api.Value, 1)}), ErrBroken},
		"one that was taken away with mail":   {actor(Actor{Mail: []api.Message{{From: -1, To: 2}}}), ErrBroken},
		"mail to another one":                 {mail(api.Message{From: -1, To: 1}), ErrBroken},
		"mail from nobody":                    {mail(api.Message{From: -1}), api.OK},
		"mail from -2":                        {mail(api.Message{From: -2}), ErrBroken},
		"mail from one that is not there":     {mail(api.Message{From: 2}), ErrBroken},
		"a long name":                         {mail(api.Message{Name: strings.Repeat("x", api.MaxName)}), api.OK},
		"a name that is too long":             {mail(api.Message{Name: strings.Repeat("x", api.MaxName+1)}), ErrBroken},
		"an argument none":                    {mail(api.Message{Args: []api.Value{{}}}), ErrBroken},
		"2000 messages":                       {mail(make([]api.Message, api.MaxMail-1)...), api.OK},
		"2001 messages":                       {mail(make([]api.Message, api.MaxMail)...), ErrBroken},
		"mail from one that was taken away": {func(s *State) {
			s.Actors = append(s.Actors, Actor{})
			s.Actors[0].Mail = []api.Message{{From: 2}}
		}, api.OK},

		"an object of an actor's entity":          {cell(api.Cell{Type: "main.Act", Fields: make([]api.Value, 2)}), ErrBroken},
		"an object of nothing":                    {cell(api.Cell{Type: "Nope"}), ErrBroken},
		"an object of a primitive":                {cell(api.Cell{Type: "None"}), ErrBroken},
		"another object":                          {cell(api.Cell{Type: "main.Cell", Fields: make([]api.Value, 2)}), api.OK},
		"an object with few fields":               {cell(api.Cell{Type: "main.Cell", Fields: make([]api.Value, 1)}), ErrBroken},
		"an object with bytes":                    {cell(api.Cell{Type: "main.Cell", Fields: make([]api.Value, 2), Bytes: "x"}), ErrBroken},
		"an object with an owner":                 {cell(api.Cell{Type: "main.Cell", Owner: 1, Fields: make([]api.Value, 2)}), api.OK},
		"an object of no owner":                   {cell(api.Cell{Type: "main.Cell", Owner: 2, Fields: make([]api.Value, 2)}), ErrBroken},
		"an object of the owner -1":               {cell(api.Cell{Type: "main.Cell", Owner: -1, Fields: make([]api.Value, 2)}), ErrBroken},
		"an object that was taken away":           {cell(api.Cell{}), api.OK},
		"one that was taken away with an owner":   {cell(api.Cell{Owner: 1}), ErrBroken},
		"one that was taken away with a field":    {cell(api.Cell{Fields: make([]api.Value, 1)}), ErrBroken},
		"one that was taken away with bytes":      {cell(api.Cell{Bytes: "x"}), ErrBroken},
		"a String of any bytes":                   {cell(api.Cell{Type: "String", Bytes: "\xff\x00\n"}), api.OK},
		"a long String":                           {cell(api.Cell{Type: "String", Bytes: strings.Repeat("x", api.MaxSource)}), api.OK},
		"a String that is too long":               {cell(api.Cell{Type: "String", Bytes: strings.Repeat("x", api.MaxSource+1)}), ErrBroken},
		"a String with a field":                   {cell(api.Cell{Type: "String", Fields: make([]api.Value, 1)}), ErrBroken},
		"an Array of anything":                    {cell(api.Cell{Type: "Array[]", Fields: []api.Value{u8(1), obj(0), truth(1)}}), api.OK},
		"an Array without an end":                 {cell(api.Cell{Type: "Array[U8 val"}), ErrBroken},
		"an Array with bytes":                     {cell(api.Cell{Type: "Array[U8 val]", Bytes: "x"}), ErrBroken},
		"an Array of none":                        {cell(api.Cell{Type: "Array[U8 val]", Fields: make([]api.Value, 1)}), ErrBroken},
		"10000 elements":                          {cell(api.Cell{Type: "Array[U8 val]", Fields: elements(MaxElements)}), api.OK},
		"10001 elements":                          {cell(api.Cell{Type: "Array[U8 val]", Fields: elements(MaxElements + 1)}), ErrBroken},
		"a field with an object that was dropped": {func(s *State) { s.Cells[0] = api.Cell{} }, ErrBroken},
		"an owner that was taken away": {func(s *State) {
			s.Actors = append(s.Actors, Actor{})
			s.Cells = append(s.Cells, api.Cell{Type: "String", Owner: 2})
		}, api.OK},
	} {
		s := base()
		c.change(&s)
		if e := Check(s); e != c.want {
			t.Errorf("%s: error %d", name, e)
		}
		w, e := Load(s)
		if e != c.want || (w == nil) != (e != api.OK) {
			t.Errorf("Load, %s: error %d", name, e)
		}
		if w != nil && !alike(w.State(), s) {
			t.Errorf("%s: State of Load is another one", name)
		}
	}
}

// TestMemory: a world keeps nothing of what it was given, and what it gave stays.
func TestMemory(t *testing.T) {
	p, args := cells(), []string{"a"}
	w := begun(t, p, args...)
	p[0].Methods[0].Params[0].Name, p[2].Fields[0].Type.Name, args[0] = "changed", "changed", "changed"
	ahead := w.State()
	if !alike(ahead.Program, cells()) {
		t.Error("the program changed")
	}
	v := loaded(t, ahead)
	pair, l := tuple(u8(1), u8(2)), []api.Value{u8(3), u8(4)}
	cell := must(t)(w.Make(1, "main.Cell"))
	must(t)(w.Set(cell, "v", pair))
	list := must(t)(w.Array(1, "Array[U8 val]", l))
	if e := w.Send(api.Message{From: 1, To: 0, Name: "x", Args: l}); e != api.OK {
		t.Fatal(e)
	}
	pair.Kids[0], l[0] = u8(9), u8(9)
	if got := w.Dump(); !strings.Contains(got, "x(U8 3, U8 4)") {
		t.Errorf("a message changed: %s", got)
	}
	if got, _ := w.Show(cell); got != "main.Cell#0{v=(U8 1, U8 2), next=none}" {
		t.Errorf("a field changed: %s", got)
	}
	if got, _ := w.Show(list); got != "Array[U8 val]#0{U8 3, U8 4}" {
		t.Errorf("an Array changed: %s", got)
	}
	if !alike(v.State(), ahead) || len(ahead.Cells) != 3 || len(ahead.Actors[0].Mail) != 0 {
		t.Error("a state that was handed out changed")
	}
	pair = tuple(u8(1), u8(2))
	for _, c := range []struct {
		name string
		args []api.Value
	}{{"push", []api.Value{pair}}, {"update", []api.Value{index(0), pair}}} {
		if _, _, e := w.Call(1, list, c.name, c.args); e != api.OK {
			t.Fatal(e)
		}
	}
	pair.Kids[0] = u8(9)
	at, _, _ := w.Call(1, list, "apply", []api.Value{index(0)})
	at.Kids[1] = u8(9)
	field := must(t)(w.Get(cell, "v"))
	field.Kids[1] = u8(9)
	if got, _ := w.Show(tuple(cell, list)); got != "(main.Cell#0{v=(U8 1, U8 2), next=none}, Array[U8 val]#1{(U8 1, U8 2), U8 4, (U8 1, U8 2)})" {
		t.Errorf("a tuple changed: %s", got)
	}
	s := w.State()
	s.Cells[3].Fields[0], s.Actors[0].Mail[0].Args[0], s.Program[0].Name = u8(77), u8(77), "changed"
	if alike(w.State(), s) || !alike(w.State().Program, cells()) {
		t.Error("a state that was changed is the world's own")
	}
}
