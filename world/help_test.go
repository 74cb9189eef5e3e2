package world_test

import (
	"reflect"
	"strings"
	"testing"

	"hackamore/api"
	"hackamore/internal/pony"
	"hackamore/num"
	. "hackamore/world"
)

// entity returns an entity with fields: names and types, with colons and semicolons.
func entity(kind int, name, fields string, methods ...api.Method) api.Entity {
	e := api.Entity{Kind: kind, Name: name, Cap: api.Ref, Methods: methods}
	for _, f := range strings.Split(fields, "; ") {
		if field, typ, ok := strings.Cut(f, ": "); ok {
			e.Fields = append(e.Fields, api.Field{Name: field, Type: pony.Type(typ)})
		}
	}
	return e
}

// method returns a method without a body, with parameters of types.
func method(kind int, name string, params ...string) api.Method {
	m := api.Method{Kind: kind, Name: name, Cap: api.Ref}
	for i, p := range params {
		m.Params = append(m.Params, api.Param{Name: string(rune('a' + i)), Type: pony.Type(p)})
	}
	return m
}

func provides(e api.Entity, l ...string) api.Entity {
	e.Provides = pony.Types(l...)
	return e
}

// program returns what each program needs, primitives, and more entities.
func program(more ...api.Entity) []api.Entity {
	return append([]api.Entity{
		entity(api.Actor, "main.Main", "", method(api.New, "create", "Env val")),
		entity(api.Actor, "Out", "", method(api.Be, "print", "String val")),
		entity(api.Class, "Env", "out: Out tag; args: Array[String val] val; root: AmbientAuth val"),
		entity(api.Primitive, "AmbientAuth", ""), entity(api.Primitive, "None", ""), entity(api.Interface, "Any", ""),
		entity(api.Primitive, "U8", ""), entity(api.Primitive, "USize", ""), entity(api.Primitive, "Bool", ""), entity(api.Class, "String", ""),
	}, more...)
}

// cells returns a program that has a class with a field of itself.
func cells() []api.Entity {
	return program(
		entity(api.Class, "main.Cell", "v: U8 val; next: (main.Cell ref | None val)"),
		entity(api.Actor, "main.Act", "c: main.Cell ref; n: U8 val", method(api.Be, "go", "main.Cell iso"), method(api.Be, "two", "main.Cell val", "U8 val")),
	)
}

func obj(n int) api.Value { return api.Value{Kind: api.ValObject, Lo: uint64(n)} }

func act(n int) api.Value { return api.Value{Kind: api.ValActor, Lo: uint64(n)} }

func unit(name string) api.Value { return api.Value{Kind: api.ValUnit, Name: name} }

func tuple(l ...api.Value) api.Value { return api.Value{Kind: api.ValTuple, Kids: l} }

func number(typ string, n uint64) api.Value {
	v, e := num.Of(typ, n)
	if e != api.OK {
		panic(typ)
	}
	return v
}

func u8(n uint64) api.Value { return number("U8", n) }

func index(n uint64) api.Value { return number("USize", n) }

func truth(b uint64) api.Value { return api.Value{Kind: api.ValBool, Lo: b} }

// nest returns a tuple of so many levels.
func nest(levels int) api.Value {
	v := u8(1)
	for range levels {
		v = tuple(u8(0), v)
	}
	return v
}

// begun returns the world at the beginning of a program.
func begun(t *testing.T, p []api.Entity, args ...string) *World {
	t.Helper()
	w, e := New(p, args)
	if e != api.OK {
		t.Fatalf("New: error %d", e)
	}
	return w
}

// loaded returns the world with a state.
func loaded(t *testing.T, s State) *World {
	t.Helper()
	w, e := Load(s)
	if e != api.OK {
		t.Fatalf("Load: error %d", e)
	}
	return w
}

// must returns a value, if there is no error.
func must(t *testing.T) func(v api.Value, e api.Errno) api.Value {
	return func(v api.Value, e api.Errno) api.Value {
		t.Helper()
		if e != api.OK {
			t.Fatalf("error %d", e)
		}
		return v
	}
}

// alike reports whether two values are equal; lists that are nil and empty are.
func alike(a, b any) bool {
	return reflect.DeepEqual(tidy(reflect.ValueOf(a)), tidy(reflect.ValueOf(b)))
}

// tidy returns a value as lists of what it has.
func tidy(v reflect.Value) any {
	switch v.Kind() {
	case reflect.Slice:
		l := []any{}
		for i := range v.Len() {
			l = append(l, tidy(v.Index(i)))
		}
		return l
	case reflect.Struct:
		l := []any{}
		for i := range v.NumField() {
			l = append(l, tidy(v.Field(i)))
		}
		return l
	}
	return v.Interface()
}

// alikeStates compares states of one program.
func alikeStates(a, b State) bool {
	a.Program, b.Program = nil, nil
	return alike(a, b)
}

// unchanged checks that a world has a state.
func unchanged(t *testing.T, w *World, s State) {
	t.Helper()
	if now := w.State(); !alikeStates(now, s) {
		t.Errorf("the state changed: %+v, not %+v", now.Cells, s.Cells)
	}
}

// right checks P17.2.
func right(t *testing.T, w *World) {
	t.Helper()
	s := w.State()
	if e := Check(s); e != api.OK {
		t.Fatalf("a state that is not right: %+v %+v", s.Actors, s.Cells)
	}
	if v, e := Load(s); e != api.OK || !alikeStates(v.State(), s) {
		t.Fatalf("Load of State: error %d", e)
	}
}
