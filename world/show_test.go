package world_test

import (
	"strings"
	"testing"

	"hackamore/api"
	. "hackamore/world"
)

func TestShow(t *testing.T) {
	w := begun(t, append(cells(), entity(api.Class, "main.Pair", "a: Any tag; b: Any tag"), entity(api.Class, "main.Empty", "")))
	make := func(typ string) api.Value { return must(t)(w.Make(1, typ)) }
	set := func(v api.Value, f string, x api.Value) { must(t)(w.Set(v, f, x)) }
	text := must(t)(w.Text(1, "a\\b\"c\nd\te\xff"))
	cell, pair, ring, empty := make("main.Cell"), make("main.Pair"), make("main.Cell"), make("main.Empty")
	set(cell, "v", u8(7))
	set(cell, "next", unit("None"))
	set(pair, "a", tuple(text, cell))
	set(pair, "b", tuple(cell, text))
	set(ring, "next", ring)
	array := must(t)(w.Array(1, "Array[Any tag]", []api.Value{ring, pair, ring, act(1), empty}))
	for i, c := range []struct {
		v    api.Value
		want string
	}{
		{api.Value{}, "none"}, {truth(0), "false"}, {truth(1), "true"}, {u8(7), "U8 7"}, {index(0), "USize 0"}, {api.Value{Kind: api.ValNumber, Lo: 0xff}, "I8 -1"}, {api.Value{Kind: api.ValNumber + 12, Lo: 0x3dcccccd}, "F32 0.1"}, {api.Value{Kind: api.ValNumber + 13, Lo: 0x7ff8000000000000}, "F64 nan"},
		{unit("None"), "None"}, {act(1), "@1"}, {act(0), "@0"}, {tuple(u8(1), truth(1)), "(U8 1, true)"}, {tuple(u8(1), tuple(act(0), unit("None")), u8(2)), "(U8 1, (@0, None), U8 2)"},
		{text, `"a\\b\"c\nd` + "\te\xff\"#0"}, {cell, "main.Cell#0{v=U8 7, next=None}"}, {ring, "main.Cell#0{v=none, next=#0}"}, {empty, "main.Empty#0{}"}, {must(t)(w.Array(1, "Array[U8 val]", nil)), "Array[U8 val]#0{}"},
		{pair, `main.Pair#0{a=("a\\b\"c\nd` + "\te\xff" + `"#1, main.Cell#2{v=U8 7, next=None}), b=(#2, #1)}`},
		{array, `Array[Any tag]#0{main.Cell#1{v=none, next=#1}, main.Pair#2{a=("a\\b\"c\nd` + "\te\xff" + `"#3, main.Cell#4{v=U8 7, next=None}), b=(#4, #3)}, #1, @1, main.Empty#5{}}`},
		{tuple(cell, cell), "(main.Cell#0{v=U8 7, next=None}, #0)"},
	} {
		if got, e := w.Show(c.v); got != c.want || e != api.OK {
			t.Errorf("%d: %s, error %d, not %s", i, got, e, c.want)
		}
	}
	for name, v := range wrongValues() {
		if name == "no such object" {
			v = obj(99)
		}
		if got, e := w.Show(v); got != "" || e != ErrBroken {
			t.Errorf("%s: %q, error %d", name, got, e)
		}
	}
}

// TestShowDepth: a value stands in 100 objects and tuples at most, wherever it is.
func TestShowDepth(t *testing.T) {
	w := begun(t, cells())
	chain := func(n int, last api.Value) api.Value {
		for range n {
			c := must(t)(w.Make(1, "main.Cell"))
			must(t)(w.Set(c, "next", last))
			last = c
		}
		return last
	}
	array := func(l ...api.Value) api.Value { return must(t)(w.Array(1, "Array[]", l)) }
	text := must(t)(w.Text(1, "x"))
	long := must(t)(w.Text(1, strings.Repeat("x", api.MaxSource)))
	inner := must(t)(w.Make(1, "main.Cell"))
	for i, c := range []struct {
		v    api.Value
		want api.Errno
	}{
		{chain(100, u8(1)), api.OK}, {chain(101, u8(1)), api.ErrDepth}, {chain(100, text), api.OK}, {chain(100, array()), api.OK}, {chain(99, array(u8(1))), api.OK}, {chain(100, array(u8(1))), api.ErrDepth},
		{chain(99, inner), api.OK}, {chain(100, inner), api.ErrDepth}, // its fields are none
		{nest(100), api.OK}, {tuple(u8(1), chain(99, u8(1))), api.OK}, {tuple(u8(1), chain(100, u8(1))), api.ErrDepth}, {chain(50, nest(50)), api.OK}, {chain(50, nest(51)), api.ErrDepth}, {chain(1, nest(100)), api.ErrDepth},
		{tuple(text, chain(99, text)), api.OK}, {tuple(text, chain(100, text)), api.ErrDepth}, // it was met, but it stands there
		{tuple(long, u8(1)), api.ErrLarge}, {tuple(long, chain(99, long)), api.ErrLarge}, {tuple(long, chain(100, long)), api.ErrDepth}, {array(long, long, chain(100, text)), api.ErrDepth}, {array(chain(100, text), long), api.ErrDepth},
		{tuple(nest(98), chain(99, u8(1))), api.OK}, {array(nest(20), nest(99), long), api.ErrLarge}, {array(long, nest(20), nest(100)), api.ErrDepth},
	} {
		got, e := w.Show(c.v)
		if e != c.want || (got == "") != (e != api.OK) {
			t.Errorf("%d: error %d, not %d", i, e, c.want)
		}
	}
	pair := tuple(u8(1), u8(2))
	deep := pair
	for range 60 {
		deep = tuple(pair, deep, pair)
	}
	if _, e := w.Show(array(long, deep, chain(38, deep))); e != api.ErrLarge {
		t.Errorf("error %d", e)
	}
	if _, e := w.Show(array(long, deep, chain(39, deep))); e != api.ErrDepth {
		t.Errorf("error %d", e)
	}
}

// TestShowSize: a text has 20000 bytes at most.
func TestShowSize(t *testing.T) {
	w := begun(t, cells())
	text := func(n int, s string) api.Value { return must(t)(w.Text(1, strings.Repeat(s, n))) }
	for i, c := range []struct {
		v    api.Value
		size int
	}{
		{text(19996, "x"), 20000}, {text(19997, "x"), 0}, {text(9998, "\n"), 20000}, {text(9999, `"`), 0}, {text(9998, `\`), 20000}, {tuple(text(19985, "x"), u8(1)), 19997}, {tuple(text(19987, "x"), u8(1)), 19999},
		{tuple(text(19988, "x"), u8(1)), 20000}, {tuple(text(19989, "x"), u8(1)), 0},
	} {
		got, e := w.Show(c.v)
		if c.size == 0 && (e != api.ErrLarge || got != "") || c.size > 0 && (e != api.OK || len(got) != c.size) {
			t.Errorf("%d: %d bytes, error %d", i, len(got), e)
		}
	}
}

func TestDump(t *testing.T) {
	w := begun(t, cells(), "a")
	if got, want := w.Dump(), "actor 0 Out{}\nactor 1 main.Main{}\n create(Env#0{out=@0, args=Array[String val]#1{\"a\"#2}, root=AmbientAuth}) from -1\n"; got != want {
		t.Errorf("%s", got)
	}
	w.Take(1)
	gone := must(t)(w.Spawn("main.Act"))
	actor := must(t)(w.Spawn("main.Act"))
	other := must(t)(w.Spawn("main.Act"))
	w.Remove(int(gone.Lo))
	cell := must(t)(w.Make(1, "main.Cell"))
	must(t)(w.Set(actor, "c", cell))
	must(t)(w.Set(cell, "next", cell))
	deep := deepChain(t, w, 101)
	must(t)(w.Set(other, "c", deep))
	must(t)(w.Set(other, "n", tuple(cell, obj(0))))
	for _, m := range []api.Message{{From: 1, To: 3, Name: "go", Args: []api.Value{cell}}, {From: -1, To: 3, Name: "two", Args: []api.Value{obj(0), u8(1)}}, {From: 2, To: 4, Name: ""}} {
		if e := w.Send(m); e != api.OK {
			t.Fatal(e)
		}
	}
	s := must(t)(w.Text(1, "x\\\n\"y"))
	w.Call(1, act(0), "print", []api.Value{s})
	w.Call(1, act(0), "print", []api.Value{obj(0)})
	want := `actor 0 Out{}
actor 1 main.Main{}
actor 3 main.Act{c=main.Cell#0{v=none, next=#0}, n=none}
 go(#0) from 1
 two("a"#1, U8 1) from -1
actor 4 main.Act{c=?, n=(#0, #1)}
 () from 2
out "x\\\n\"y"
out "a"
`
	if got := w.Dump(); got != want {
		t.Errorf("%s", got)
	}
}

// TestDumpQuestions: what has no text is `?`, and meets no objects.
func TestDumpQuestions(t *testing.T) {
	w := begun(t, append(cells(), entity(api.Actor, "main.All", "a: Any tag; b: Any tag; c: Any tag; d: Any tag")))
	w.Take(1)
	all := must(t)(w.Spawn("main.All"))
	cell := must(t)(w.Make(1, "main.Cell"))
	long := must(t)(w.Text(1, strings.Repeat("x", api.MaxSource-20)))
	for f, v := range map[string]api.Value{"a": tuple(cell, tuple(long, u8(1))), "b": tuple(long, u8(1)), "c": tuple(cell, long), "d": deepChain(t, w, 101)} {
		must(t)(w.Set(all, f, v))
	}
	want := "a=?, b=(\"" + strings.Repeat("x", api.MaxSource-20) + "\"#0, U8 1), c=(main.Cell#1{v=none, next=none}, #0), d=?}\n"
	if _, got, _ := strings.Cut(w.Dump(), "main.All{"); got != want {
		t.Errorf("%.100s .. %s", got, got[max(0, len(got)-100):])
	}
	if got := loaded(t, State{Program: cells()}).Dump(); got != "" {
		t.Errorf("nobody: %q", got)
	}
}

// TestDumpDropped: also where a field refers to what was taken away there is a text.
func TestDumpDropped(t *testing.T) {
	w := withActors(t, 2)
	a, b := must(t)(w.Make(1, "main.Cell")), must(t)(w.Make(1, "main.Cell"))
	must(t)(w.Set(a, "next", b))
	must(t)(w.Set(act(2), "c", a))
	must(t)(w.Set(act(3), "c", act(2)))
	w.Drop(int(b.Lo))
	w.Remove(2)
	if got, e := w.Show(a); got != "" || e != ErrBroken {
		t.Errorf("%q, error %d", got, e)
	}
	if got := w.Dump(); !strings.Contains(got, "actor 3 main.Act{c=@2, n=none}\n") || len(w.Paths()) > 1 {
		t.Errorf("%s", got)
	}
}
