package world

import (
	"slices"
	"strings"

	"hackamore/api"
	"hackamore/num"
)

// Names of what each program has.
const (
	mainName   = "main.Main"
	outName    = "Out"
	envName    = "Env"
	createName = "create"
	stringName = "String"
)

// programError returns the error of the program.
func (w *World) programError() api.Errno {
	p := w.state.Program
	switch {
	case len(p) > api.MaxUnits:
		return api.ErrSize
	case len(w.places) < len(p):
		return api.ErrTwice
	case !w.canBegin():
		return ErrMethod
	}
	return api.OK
}

// canBegin reports whether what the beginning needs is there.
func (w *World) canBegin() bool {
	first, ok := w.entityOf(api.Actor, mainName)
	if !ok {
		return false
	}
	create, ok := ownMethod(first, createName)
	if !ok || create.Kind != api.New || len(create.Params) != 1 {
		return false
	}
	if _, ok := w.entityOf(api.Actor, outName); !ok {
		return false
	}
	env, ok := w.entityOf(api.Class, envName)
	return ok && slices.EqualFunc(env.Fields, []string{"out", "args", "root"}, isNamed)
}

func isNamed(f api.Field, name string) bool { return f.Name == name }

// isString and isArray report whether objects of a Type are Strings, or Arrays.

func isString(typ string) bool { return typ == stringName }

func isArray(typ string) bool {
	return strings.HasPrefix(typ, "Array[") && strings.HasSuffix(typ, "]")
}

// hasActor reports whether an actor is there.
func (w *World) hasActor(i int) bool { return w.hadActor(i) && w.state.Actors[i].Type != "" }

// hadActor reports whether an actor is there, or was taken away.
func (w *World) hadActor(i int) bool { return i >= 0 && i < len(w.state.Actors) }

// isSender reports whether a message may come from there.
func (w *World) isSender(i int) bool { return i == -1 || w.hadActor(i) }

// hasCell reports whether an object is there.
func (w *World) hasCell(i int) bool {
	return i >= 0 && i < len(w.state.Cells) && w.state.Cells[i].Type != ""
}

// number returns the number of an actor, or an object, that a value names; -1 for one that is none.
func number(v api.Value) int {
	if v.Lo > api.MaxCells {
		return -1
	}
	return int(v.Lo)
}

// isRight reports whether a value is right.
func (w *World) isRight(v api.Value) bool {
	if v.Kind != api.ValTuple {
		return w.isRightAlone(v)
	}
	m := measurer{w, map[group]int{}}
	_, ok := m.levels(v, 0)
	return ok
}

// isThere reports whether a value is right, and not ValNone.
func (w *World) isThere(v api.Value) bool { return v.Kind != api.ValNone && w.isRight(v) }

func (w *World) areRight(l []api.Value) bool {
	return !slices.ContainsFunc(l, func(v api.Value) bool { return !w.isRight(v) })
}

func (w *World) areThere(l []api.Value) bool {
	return !slices.ContainsFunc(l, func(v api.Value) bool { return !w.isThere(v) })
}

// isRightAlone reports whether a value that is no tuple is right.
func (w *World) isRightAlone(v api.Value) bool {
	bare := v.Hi == 0 && len(v.Kids) == 0
	switch v.Kind {
	case api.ValNone:
		return bare && v.Lo == 0 && v.Name == ""
	case api.ValObject:
		return bare && v.Name == "" && w.hasCell(number(v))
	case api.ValActor:
		return bare && v.Name == "" && w.hasActor(number(v))
	case api.ValUnit:
		e, ok := w.entity(v.Name)
		return bare && v.Lo == 0 && ok && e.Kind == api.Primitive
	}
	return num.Check(v) == api.OK
}

// group is the memory of a tuple's elements. Tuples that share it are equal.
type group struct {
	first *api.Value
	count int
}

func groupOf(v api.Value) group { return group{&v.Kids[0], len(v.Kids)} }

// measurer counts the levels of tuples. It keeps what it counted: a tuple that has another one twice at each level is not looked at twice.
type measurer struct {
	w     *World
	known map[group]int
}

// levels returns how many levels a tuple that stands in others has; false, if it is not right, or there are too many in all.
func (m measurer) levels(v api.Value, above int) (int, bool) {
	if v.Lo != 0 || v.Hi != 0 || v.Name != "" || len(v.Kids) < 2 || above == api.MaxTree {
		return 0, false
	}
	if n, ok := m.known[groupOf(v)]; ok {
		return n, above+n <= api.MaxTree
	}
	most := 0
	for _, k := range v.Kids {
		n, ok := 0, k.Kind != api.ValNone
		switch {
		case k.Kind == api.ValTuple:
			n, ok = m.levels(k, above+1)
		case ok:
			ok = m.w.isRightAlone(k)
		}
		if !ok {
			return 0, false
		}
		most = max(most, n)
	}
	m.known[groupOf(v)] = most + 1
	return most + 1, true
}

// isRightState reports whether actors, objects, mail and what was told are right.
func (w *World) isRightState() bool {
	s := w.state
	if len(s.Actors) > api.MaxActors || len(s.Cells) > api.MaxCells || len(s.Trace) > api.MaxFuel || len(s.Output) > api.MaxFuel {
		return false
	}
	for i, a := range s.Actors {
		if !w.isRightActor(i, a) {
			return false
		}
	}
	for _, c := range s.Cells {
		if !w.isRightCell(c) {
			return false
		}
	}
	return w.waiting() <= api.MaxMail
}

func (w *World) isRightActor(i int, a Actor) bool {
	if a.Type == "" {
		return len(a.Fields) == 0 && len(a.Mail) == 0
	}
	e, ok := w.entityOf(api.Actor, a.Type)
	if !ok || len(a.Fields) != len(e.Fields) || !w.areRight(a.Fields) {
		return false
	}
	return !slices.ContainsFunc(a.Mail, func(m api.Message) bool {
		return m.To != i || !w.isSender(m.From) || len(m.Name) > api.MaxName || !w.areThere(m.Args)
	})
}

func (w *World) isRightCell(c api.Cell) bool {
	if c.Type == "" {
		return c.Owner == 0 && len(c.Fields) == 0 && c.Bytes == ""
	}
	if !w.hadActor(c.Owner) {
		return false
	}
	switch {
	case isString(c.Type):
		return len(c.Fields) == 0 && !isLong(c.Bytes)
	case isArray(c.Type):
		return c.Bytes == "" && len(c.Fields) <= MaxElements && w.areThere(c.Fields)
	}
	e, ok := w.entityOf(api.Class, c.Type)
	return ok && c.Bytes == "" && len(c.Fields) == len(e.Fields) && w.areRight(c.Fields)
}
