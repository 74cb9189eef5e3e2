package world_test

import (
	"slices"
	"strings"
	"testing"

	"hackamore/api"
	"hackamore/num"
	. "hackamore/world"
)

// called is a call of a method of the runtime, and what it gives: the text of the result, `raised`, or a code.
type called struct {
	receiver api.Value
	name     string
	args     []api.Value
	want     string
	code     api.Errno
}

func list(l ...api.Value) []api.Value { return l }

// testCalls checks calls, and P17.5: what they return is right, and what has an error changes nothing.
func testCalls(t *testing.T, w *World, l []called) {
	t.Helper()
	for i, c := range l {
		ahead := w.State()
		v, raised, e := w.Call(1, c.receiver, c.name, c.args)
		got := ""
		if raised {
			got = "raised"
		} else if e == api.OK {
			text, code := w.Show(v)
			if code != api.OK {
				t.Errorf("%d: the result %v has no text: error %d", i, v, code)
			}
			got = text
		}
		if got != c.want || e != c.code {
			t.Errorf("%d, %s of %v and %v: %q, error %d", i, c.name, c.receiver, c.args, got, e)
		}
		if raised || e != api.OK {
			if !alike(v, api.Value{}) {
				t.Errorf("%d: %v with an error", i, v)
			}
			unchanged(t, w, ahead)
		}
		for _, cell := range w.State().Cells[len(ahead.Cells):] {
			if cell.Owner != 1 {
				t.Errorf("%d: the owner is %d", i, cell.Owner)
			}
		}
		right(t, w)
	}
}

func TestCallNumbers(t *testing.T) {
	w := begun(t, cells())
	f64, _ := num.Parse("F64", "1.5")
	big, _ := num.Parse("I128", "-170141183460469231731687303715884105728")
	testCalls(t, w, []called{
		{number("I8", 255), "add", list(number("I8", 3)), "I8 2", 0}, {number("I8", 128), "string", nil, `"-128"#0`, 0},
		{u8(250), "add", list(u8(10)), "U8 4", 0}, {u8(250), "add_partial", list(u8(10)), "raised", 0}, {u8(2), "lt", list(u8(3)), "true", 0}, {f64, "mul", list(f64), "F64 2.25", 0}, {u8(7), "f64", nil, "F64 7.0", 0},
		{truth(1), "op_and", list(truth(0)), "false", 0}, {truth(1), "op_not", nil, "false", 0},
		{u8(7), "string", nil, `"7"#0`, 0}, {f64, "string", nil, `"1.5"#0`, 0}, {big, "string", nil, `"-170141183460469231731687303715884105728"#0`, 0}, {truth(1), "string", nil, `"true"#0`, 0}, {truth(0), "string", nil, `"false"#0`, 0},
		{u8(7), "string", list(u8(1)), "", api.ErrSize}, {truth(0), "string", list(truth(0)), "", api.ErrSize},
		{u8(7), "nope", nil, "", api.ErrNone}, {u8(7), "", nil, "", api.ErrNone}, {truth(1), "add", list(truth(1)), "", api.ErrNone}, {u8(7), "nope", list(index(1), index(1)), "", api.ErrNone},
		{u8(7), "add", nil, "", api.ErrSize}, {u8(7), "add", list(u8(1), u8(1)), "", api.ErrSize}, {u8(7), "add", list(index(1)), "", api.ErrType}, {u8(7), "add", list(act(1)), "", api.ErrType}, {truth(1), "eq", list(u8(1)), "", api.ErrType},
		{u8(7), "add", list(api.Value{}), "", ErrBroken}, {u8(7), "nope", list(obj(99)), "", ErrBroken}, {api.Value{Kind: u8(0).Kind, Lo: 256}, "add", list(u8(1)), "", ErrBroken},
		{u8(7), "print", list(u8(1)), "", api.ErrNone}, {u8(7), "size", nil, "", api.ErrNone},
	})
}

func TestCallUnits(t *testing.T) {
	w := begun(t, append(cells(), entity(api.Primitive, "main.P", "")))
	s := must(t)(w.Text(0, "s"))
	cell := must(t)(w.Make(1, "main.Cell"))
	testCalls(t, w, []called{
		{unit("None"), "string", nil, `"None"#0`, 0}, {unit("None"), "string", list(u8(1)), "", api.ErrSize}, {unit("None"), "eq", nil, "", ErrMethod}, {unit("main.P"), "string", nil, "", ErrMethod}, {unit("U8"), "add", list(u8(1)), "", ErrMethod},
		{unit("Bool"), "string", nil, "", ErrMethod}, {cell, "v", nil, "", ErrMethod}, {cell, "string", nil, "", ErrMethod}, {tuple(u8(1), u8(2)), "string", nil, "", ErrMethod}, {tuple(u8(1), u8(2)), "size", list(u8(1)), "", ErrMethod},
		{api.Value{}, "string", nil, "", ErrBroken}, {obj(99), "string", nil, "", ErrBroken}, {act(9), "print", list(s), "", ErrBroken}, {unit("Env"), "string", nil, "", ErrBroken}, {unit("None"), "nope", list(api.Value{}), "", ErrBroken},
		{act(0), "print", list(s), "None", 0}, {act(0), "print", nil, "", api.ErrSize}, {act(0), "print", list(s, s), "", api.ErrSize}, {act(0), "print", list(u8(1)), "", api.ErrType}, {act(0), "print", list(cell), "", api.ErrType}, {act(0), "print", list(unit("None")), "", api.ErrType},
		{act(0), "string", nil, "", ErrMethod}, {act(1), "print", list(s), "", ErrMethod}, {act(0), "create", nil, "", ErrMethod},
	})
	if got := w.State().Output; !slices.Equal(got, []string{"s"}) {
		t.Errorf("%q", got)
	}
	for _, actor := range []int{-1, 2, 64} {
		if v, raised, e := w.Call(actor, obj(99), "x", nil); e != api.ErrNone || raised || !alike(v, api.Value{}) {
			t.Errorf("%d: %v, error %d", actor, v, e)
		}
	}
}

// TestNoNone: the unit None is returned also where the program has no such primitive.
func TestNoNone(t *testing.T) {
	p := slices.DeleteFunc(program(), func(e api.Entity) bool { return e.Name == "None" })
	w := begun(t, p)
	array := must(t)(w.Array(1, "Array[U8 val]", nil))
	if v, raised, e := w.Call(1, array, "push", list(u8(1))); e != api.OK || raised || !alike(v, unit("None")) {
		t.Errorf("%v, error %d", v, e)
	}
	if v, raised, e := w.Call(1, act(0), "print", list(must(t)(w.Text(1, "x")))); e != api.OK || raised || !alike(v, unit("None")) {
		t.Errorf("%v, error %d", v, e)
	}
	right(t, w)
}

func TestCallStrings(t *testing.T) {
	w := begun(t, cells())
	text := func(s string) api.Value { return must(t)(w.Text(0, s)) }
	s, e, b, long := text("h\xe9l\"lo"), text(""), text("h\xe9"), text(strings.Repeat("y", api.MaxSource))
	num, none := u8(1), unit("None")
	l := []called{
		{s, "size", nil, "USize 6", 0}, {e, "size", nil, "USize 0", 0}, {long, "size", nil, "USize 20000", 0}, {s, "size", list(num), "", api.ErrSize},
		{s, "apply", list(index(0)), "U8 104", 0}, {s, "apply", list(index(1)), "U8 233", 0}, {s, "apply", list(index(5)), "U8 111", 0}, {s, "apply", list(index(6)), "raised", 0}, {e, "apply", list(index(0)), "raised", 0}, {s, "apply", list(index(1 << 63)), "raised", 0},
		{s, "apply", list(num), "", api.ErrType}, {s, "apply", nil, "", api.ErrSize}, {s, "apply", list(s), "", api.ErrType},
		{b, "add", list(s), "\"h\xe9h\xe9l\\\"lo\"#0", 0}, {e, "add", list(e), `""#0`, 0}, {long, "add", list(b), "", api.ErrLarge}, {s, "add", list(none), "", api.ErrType}, {s, "add", list(num), "", api.ErrType}, {s, "add", nil, "", api.ErrSize},
		{s, "substring", list(index(1), index(4)), "\"\xe9l\\\"\"#0", 0}, {s, "substring", list(index(0), index(6)), "\"h\xe9l\\\"lo\"#0", 0}, {s, "substring", list(index(4), index(99)), `"lo"#0`, 0}, {s, "substring", list(index(6), index(7)), `""#0`, 0},
		{s, "substring", list(index(9), index(1<<63)), `""#0`, 0}, {s, "substring", list(index(3), index(2)), `""#0`, 0}, {s, "substring", list(index(3), index(3)), `""#0`, 0}, {s, "substring", list(index(1<<63), index(0)), `""#0`, 0}, {e, "substring", list(index(0), index(1)), `""#0`, 0},
		{s, "substring", list(index(3)), "", api.ErrSize}, {s, "substring", list(index(3), num), "", api.ErrType}, {s, "substring", list(num, index(3)), "", api.ErrType},
		{b, "string", nil, "\"h\xe9\"#0", 0}, {b, "string", list(num), "", api.ErrSize}, {s, "nope", nil, "", ErrMethod}, {s, "push", list(num), "", ErrMethod}, {s, "eq", nil, "", api.ErrSize}, {s, "lt", list(num), "", api.ErrType}, {s, "print", list(s), "", ErrMethod},
	}
	order := []api.Value{e, b, text("h\xe9"), s, text("ha"), text("\xff")}
	for _, x := range order {
		for _, y := range order {
			cells := w.State().Cells
			c := strings.Compare(cells[x.Lo].Bytes, cells[y.Lo].Bytes)
			for name, want := range map[string]bool{"eq": c == 0, "ne": c != 0, "lt": c < 0, "le": c <= 0, "gt": c > 0, "ge": c >= 0} {
				l = append(l, called{x, name, list(y), map[bool]string{true: "true", false: "false"}[want], 0})
			}
		}
	}
	for _, x := range []called{{long, "add", list(e), "", 0}, {e, "add", list(long), "", 0}} {
		if v, _, code := w.Call(1, x.receiver, "add", x.args); code != api.OK || len(w.State().Cells[v.Lo].Bytes) != api.MaxSource {
			t.Errorf("add of long ones: error %d", code)
		}
	}
	testCalls(t, w, l)
	if v, _, _ := w.Call(1, s, "string", nil); !alike(v, s) {
		t.Errorf("string of a String is another one: %v", v)
	}
	if v, _, _ := w.Call(1, s, "add", list(e)); alike(v, s) {
		t.Errorf("add is no new one: %v", v)
	}
}

func TestCallArrays(t *testing.T) {
	w := begun(t, cells())
	cell := must(t)(w.Make(0, "main.Cell"))
	array := must(t)(w.Array(0, "Array[Any tag]", []api.Value{u8(1), cell}))
	empty := must(t)(w.Array(0, "Array[U8 val]", nil))
	full := must(t)(w.Array(0, "Array[U8 val]", slices.Repeat([]api.Value{u8(1)}, MaxElements)))
	show := "Array[Any tag]#0{U8 1, main.Cell#1{v=none, next=none}, U8 1, (U8 1, U8 2)}"
	testCalls(t, w, []called{
		{array, "size", nil, "USize 2", 0}, {empty, "size", nil, "USize 0", 0}, {full, "size", nil, "USize 10000", 0}, {array, "apply", list(index(0)), "U8 1", 0}, {array, "apply", list(index(1)), "main.Cell#0{v=none, next=none}", 0}, {array, "apply", list(index(2)), "raised", 0},
		{empty, "apply", list(index(0)), "raised", 0}, {array, "apply", list(index(1<<63 + 1)), "raised", 0}, {array, "apply", list(u8(0)), "", api.ErrType}, {array, "apply", nil, "", api.ErrSize}, {array, "apply", list(index(0), index(0)), "", api.ErrSize},
		{array, "push", list(u8(1)), "None", 0}, {array, "push", list(tuple(u8(1), u8(2))), "None", 0}, {array, "push", nil, "", api.ErrSize}, {full, "push", list(u8(1)), "", api.ErrFull}, {full, "push", list(api.Value{}), "", ErrBroken},
		{array, "update", list(index(1), u8(9)), "main.Cell#0{v=none, next=none}", 0}, {array, "apply", list(index(1)), "U8 9", 0}, {array, "update", list(index(1), cell), "U8 9", 0}, {array, "update", list(index(4), u8(9)), "raised", 0}, {array, "update", list(u8(9), index(1)), "", api.ErrType},
		{array, "update", list(index(1)), "", api.ErrSize}, {empty, "pop", nil, "raised", 0}, {empty, "pop", list(u8(1)), "", api.ErrSize}, {full, "pop", nil, "U8 1", 0}, {full, "push", list(u8(2)), "None", 0}, {full, "apply", list(index(9999)), "U8 2", 0},
		{array, "string", nil, "", ErrMethod}, {array, "add", list(u8(1)), "", ErrMethod}, {array, "create", nil, "", ErrMethod},
	})
	if got, e := w.Show(array); got != show || e != api.OK {
		t.Errorf("%s, error %d", got, e)
	}
	testCalls(t, w, []called{
		{array, "pop", nil, "(U8 1, U8 2)", 0}, {array, "pop", nil, "U8 1", 0}, {array, "pop", nil, "main.Cell#0{v=none, next=none}", 0}, {array, "push", list(array), "None", 0}, {array, "pop", nil, "Array[Any tag]#0{U8 1}", 0}, {array, "pop", nil, "U8 1", 0}, {array, "pop", nil, "raised", 0}, {array, "size", nil, "USize 0", 0},
	})
}

// TestFullOutput: there is room for MaxFuel texts.
func TestFullOutput(t *testing.T) {
	s := begun(t, cells(), "a").State()
	s.Output = make([]string, api.MaxFuel-1)
	w := loaded(t, s)
	for _, want := range []api.Errno{api.OK, api.ErrFull} {
		if v, raised, e := w.Call(1, act(0), "print", list(obj(0))); e != want || raised || e != api.OK && !alike(v, api.Value{}) {
			t.Errorf("%v, error %d", v, e)
		}
	}
}
