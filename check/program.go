package check

import (
	"hackamore/api"
	"hackamore/cap"
	"hackamore/subtype"
	"hackamore/types"
)

// Program returns the first error of the entities of a program, without their bodies.
func Program(p []api.Entity) (Fault, api.Errno) {
	if len(p) > api.MaxUnits {
		return Fault{Method: -1}, api.ErrSize
	}
	known := map[string]bool{}
	for i, entity := range p {
		if known[entity.Name] {
			return Fault{Entity: i, Method: -1}, api.ErrTwice
		}
		known[entity.Name] = true
		if method, e := checkEntity(p, entity); e != api.OK {
			return Fault{Entity: i, Method: method}, e
		}
	}
	o := offers{p, map[string]offer{}}
	for i, entity := range p {
		if !o.keeps(entity) {
			return Fault{Entity: i, Method: -1}, ErrEntity
		}
	}
	return Fault{}, api.OK
}

// checkEntity returns the first error of an entity by itself, and the number of the method that has it.
func checkEntity(p []api.Entity, entity api.Entity) (int, api.Errno) {
	switch {
	case entity.Kind < api.Class || entity.Kind > api.Interface || !cap.Is(entity.Cap) || len(entity.Bounds) > 0:
		return -1, api.ErrForm
	case len(entity.Provides) > api.MaxList || len(entity.Fields) > api.MaxList || len(entity.Methods) > api.MaxList:
		return -1, api.ErrSize
	}
	for _, t := range entity.Provides {
		if !mayProvide(p, entity, t) {
			return -1, ErrEntity
		}
	}
	if e := checkFields(entity); e != api.OK {
		return -1, e
	}
	known := map[string]bool{}
	for j, m := range entity.Methods {
		if known[m.Name] {
			return j, api.ErrTwice
		}
		known[m.Name] = true
		if e := checkMethod(entity, m); e != api.OK {
			return j, e
		}
	}
	return -1, api.OK
}

// mayProvide reports whether an entity may name a type as one that it provides.
func mayProvide(p []api.Entity, entity api.Entity, t api.Type) bool {
	if t.Kind != api.TypeName || len(t.Args) > 0 || !types.Reified(t) {
		return false
	}
	i, e := subtype.Find(p, t.Name)
	if e != api.OK || p[i].Kind != api.Interface && (p[i].Kind != api.Trait || entity.Kind == api.Interface) {
		return false
	}
	supers, _ := subtype.Supers(p, t)
	for _, s := range supers {
		if s.Name == entity.Name {
			return false
		}
	}
	return true
}

func checkFields(entity api.Entity) api.Errno {
	if len(entity.Fields) > 0 && entity.Kind != api.Class && entity.Kind != api.Actor {
		return ErrEntity
	}
	known := map[string]bool{}
	for _, f := range entity.Fields {
		switch {
		case known[f.Name]:
			return api.ErrTwice
		case !isHeld(f.Type):
			return api.ErrForm
		}
		known[f.Name] = true
	}
	return api.OK
}

// checkMethod returns the error of a method without its body.
func checkMethod(entity api.Entity, m api.Method) api.Errno {
	if m.Kind < api.New || m.Kind > api.Be || !cap.Is(m.Cap) || len(m.Bounds) > 0 || len(m.Params) > api.MaxList {
		return api.ErrForm
	}
	known := map[string]bool{}
	for _, param := range m.Params {
		if known[param.Name] {
			return api.ErrTwice
		}
		known[param.Name] = true
	}
	switch {
	case !hasRightTypes(m):
		return api.ErrForm
	case !mayStand(entity, m):
		return ErrEntity
	case isSent(entity, m) && !takesSendable(m):
		return ErrSend
	case isNone(m.Body) && isConcrete(entity.Kind) && !Builtin(entity.Name), !isNone(m.Body) && entity.Kind == api.Interface:
		return ErrPlace
	}
	return api.OK
}

// hasRightTypes reports whether the types of a method mean something for the receiver that it declares.
func hasRightTypes(m api.Method) bool {
	isRight := func(t api.Type) bool {
		if types.Check(t) != api.OK || len(types.Params(t)) > 0 || !isEven(t) {
			return false
		}
		_, e := types.Self(t, m.Cap, api.Plain)
		return e == api.OK
	}
	for _, param := range m.Params {
		if !isRight(param.Type) {
			return false
		}
	}
	return isZero(m.Result) || isRight(m.Result)
}

// mayStand reports whether an entity may have such a method.
func mayStand(entity api.Entity, m api.Method) bool {
	switch m.Kind {
	case api.New:
		switch entity.Kind {
		case api.Class:
			return true
		case api.Actor:
			return m.Cap == api.Tag && !m.Partial
		case api.Primitive:
			return m.Cap == api.Val
		}
		return false
	case api.Be:
		return entity.Kind != api.Class && entity.Kind != api.Primitive && isEmptyResult(m.Result) && !m.Partial
	}
	return true
}

// isSent reports whether the arguments of a method go to another actor, or into an object that may go to one.
func isSent(entity api.Entity, m api.Method) bool {
	if m.Kind != api.New {
		return m.Kind == api.Be
	}
	return entity.Kind == api.Actor || entity.Kind == api.Class && (m.Cap == api.Iso || m.Cap == api.Trn || m.Cap == api.Val)
}

func takesSendable(m api.Method) bool {
	for _, param := range m.Params {
		if !types.Sendable(param.Type) {
			return false
		}
	}
	return true
}

// offer has the methods of the type of an entity, in order and by their names.
type offer struct {
	list  []api.Method
	named map[string]api.Method
}

// offers keeps what the entities of a program offer by their names.
type offers struct {
	p     []api.Entity
	known map[string]offer
}

func (o offers) of(name string) offer {
	x, ok := o.known[name]
	if !ok {
		x.named = map[string]api.Method{}
		x.list, _ = subtype.Methods(o.p, named(name, api.Ref))
		for _, m := range x.list {
			x.named[m.Name] = m
		}
		o.known[name] = x
	}
	return x
}

// keeps reports whether an entity has all methods that it promises by what it provides.
func (o offers) keeps(entity api.Entity) bool {
	for _, t := range entity.Provides {
		for _, n := range o.of(t.Name).list {
			if !o.has(entity, n) {
				return false
			}
		}
	}
	return true
}

// has reports whether an entity has a method that stands in the place of another one.
func (o offers) has(entity api.Entity, n api.Method) bool {
	if n.Kind == api.Be && (entity.Kind == api.Class || entity.Kind == api.Primitive) {
		return false
	}
	m, ok := o.of(entity.Name).named[n.Name]
	if !ok || isNone(m.Body) && isConcrete(entity.Kind) && !Builtin(entity.Name) {
		return false
	}
	return subtype.Method(o.p, m, n)
}
