package meaning_test

import (
	"reflect"
	"strings"
	"testing"

	"hackamore/api"
	"hackamore/internal/pony"
	. "hackamore/meaning"
	"hackamore/num"
	"hackamore/world"
)

// text is a program that has something of everything; many of its bodies are given by the tests.
const text = `
class Cell
  var v: U8
  var next: (Cell | None)
  new create() => None
  new of(x: U8) => v = x
  new twice(x: U8, y: U8) => v = x; return; v = y
  fun get(): U8 => v
  fun give(x: U8): None => x
  fun back(x: U8): U8 => return x; v
  fun risky(x: U8): U8 ? => if x == U8(0) then error else x end
  fun bad(x: U8): U8 => x
  fun two(x: U8, y: U8): U8 => x + y
trait Named
  fun name(): U8 => U8(77)
  fun abstract(): U8
class Dog is Named
  new create() => None
  fun abstract(): U8 => U8(1)
primitive Maths
  new create() => None
  fun half(x: U8): U8 => x / U8(2)
actor Act
  var n: U8
  var cell: Cell
  new create(x: U8) => n = x
  be go(x: U8) => n = x
  be fail(x: U8) => n = x
  be chat(a: Act, k: USize) => if k > 0 then a.chat(this, k - 1) end
  fun ref mine(): U8 => n
actor Main
  new create(env: Env) => None
  fun tag all(d: Dog, m: Maths, a: Act, l: Array[U8], n: Named, c: Cell) => None
`

func expr(op int, s string, kids ...api.Expr) api.Expr { return pony.Expr(op, s, kids...) }

// no is an expression that is none.
var no = api.Expr{}

func lit(s string) api.Expr {
	text, typ, _ := strings.Cut(s, ": ")
	return api.Expr{Op: api.OpLit, Text: text, Types: []api.Type{{Kind: api.TypeName, Name: typ, Cap: api.Val}}}
}

func byte8(n string) api.Expr { return lit(n + ": U8") }

func local(name string) api.Expr { return expr(api.OpLocal, name) }

func this() api.Expr { return expr(api.OpThis, "") }

func seq(l ...api.Expr) api.Expr { return expr(api.OpSeq, "", l...) }

func yes() api.Expr { return lit("true: Bool") }

func not() api.Expr { return lit("false: Bool") }

func fail() api.Expr { return expr(api.OpError, "") }

func assign(name string, x api.Expr) api.Expr { return expr(api.OpAssign, name, x) }

func call(name string, l ...api.Expr) api.Expr { return expr(api.OpCall, name, l...) }

func makes(s string, l ...api.Expr) api.Expr {
	name, typ, _ := strings.Cut(s, ": ")
	return api.Expr{Op: api.OpNew, Text: name, Types: []api.Type{{Kind: api.TypeName, Name: typ, Cap: api.Ref}}, Kids: l}
}

// push puts a U8 behind those of the Array that is the receiver: so tests see what was evaluated.
func push(n string) api.Expr { return call("push", this(), byte8(n)) }

// with returns the program in which the body of a method is another one.
func with(p []api.Entity, entity, method string, body api.Expr) []api.Entity {
	p, _, _ = pony.With(p, entity, method, func(m *api.Method) { m.Body = body })
	return p
}

// begun returns the world of a program, whose first message was taken: the objects 0 and 1 are the Array and the Env; an Act is the actor 2.
func begun(t *testing.T, p []api.Entity) *world.World {
	t.Helper()
	w, e := world.New(p, nil)
	if e != api.OK {
		t.Fatalf("New: error %d", e)
	}
	w.Take(1)
	if _, e := w.Spawn("main.Act"); e != api.OK {
		t.Fatalf("Spawn: error %d", e)
	}
	return w
}

func loaded(t *testing.T, s world.State) *world.World {
	t.Helper()
	w, e := world.Load(s)
	if e != api.OK {
		t.Fatalf("Load: error %d", e)
	}
	return w
}

func obj(n int) api.Value { return api.Value{Kind: api.ValObject, Lo: uint64(n)} }

func act(n int) api.Value { return api.Value{Kind: api.ValActor, Lo: uint64(n)} }

func unit(name string) api.Value { return api.Value{Kind: api.ValUnit, Name: name} }

func u8(n uint64) api.Value {
	v, _ := num.Of("U8", n)
	return v
}

func locals(l ...any) []Local {
	var out []Local
	for i := 0; i < len(l); i += 2 {
		out = append(out, Local{l[i].(string), l[i+1].(api.Value)})
	}
	return out
}

var kindNames = []string{"value", "error", "return", "break", "continue", "empty", "wrong"}

// told returns an outcome as text: its kind, its value or its code, and the local variables, if there are any.
func told(w *world.World, o Outcome) string {
	s := kindNames[o.Kind]
	if o.Kind == Value || o.Kind == Return {
		text, e := w.Show(o.Value)
		if e != api.OK {
			text = "?"
		}
		s += " " + text
	} else if !reflect.DeepEqual(o.Value, api.Value{}) {
		s += " with a value"
	}
	if o.Code != api.OK || o.Kind >= Empty {
		s += " " + o.Code.Error()
	}
	for _, l := range o.Locals {
		text, e := w.Show(l.Value)
		if e != api.OK {
			text = "?"
		}
		s += "; " + l.Name + "=" + text
	}
	return s
}

// evaluated is an expression, and what comes of it: for the actor 1, whose receiver is an Array of U8 (the object 2), with the local variables x, which is 5, and u, which has no value.
type evaluated struct {
	e    api.Expr
	want string
	used int    // not asked, if it is 0
	list string // what the Array has behind it, as numbers
}

func testEval(t *testing.T, p []api.Entity, l []evaluated) {
	t.Helper()
	start := begun(t, p)
	array, _ := start.Array(1, "Array[U8 val]", nil)
	s := start.State()
	for i, c := range l {
		w := loaded(t, s)
		o := Eval(w, 1, array, c.e, locals("x", u8(5), "u", api.Value{}), api.MaxFuel)
		want := c.want
		if !strings.Contains(want, ";") {
			want += "; x=U8 5; u=none"
		}
		if got := told(w, o); got != want {
			t.Errorf("%d: %s, not %s", i, got, want)
		}
		if c.used > 0 && o.Used != c.used {
			t.Errorf("%d: %d used, not %d", i, o.Used, c.used)
		}
		shown, _ := w.Show(array)
		shown = strings.NewReplacer("Array[U8 val]#0{", "", "U8 ", "", ",", "", "}", "").Replace(shown)
		if shown != c.list {
			t.Errorf("%d: the Array has %s, not %s", i, shown, c.list)
		}
		if e := world.Check(w.State()); e != api.OK {
			t.Errorf("%d: the state is not right", i)
		}
		testFuel(t, s, array, c.e, o)
	}
}

// sameState reports whether two worlds of one program have equal states.
func sameState(v, w *world.World) bool {
	a, b := v.State(), w.State()
	a.Program, b.Program = nil, nil
	return reflect.DeepEqual(a, b)
}

// testFuel checks P18.2: with less fuel an evaluation is Empty, with as much as it used it is the same.
func testFuel(t *testing.T, s world.State, this api.Value, e api.Expr, o Outcome) {
	t.Helper()
	for fuel := range min(o.Used+1, 30) {
		w := loaded(t, s)
		got := Eval(w, 1, this, e, locals("x", u8(5), "u", api.Value{}), fuel)
		if fuel < o.Used && (got.Kind != Empty || got.Code != api.ErrSteps || got.Used != fuel) {
			t.Errorf("with the fuel %d of %d: %s, used %d", fuel, o.Used, told(w, got), got.Used)
		}
		if fuel == o.Used && !reflect.DeepEqual(got, o) {
			t.Errorf("with the fuel %d: %v, not %v", fuel, got, o)
		}
	}
}
