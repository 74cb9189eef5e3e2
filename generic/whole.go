package generic

import (
	"slices"

	"hackamore/api"
	"hackamore/subtype"
	"hackamore/types"
)

// candidate is a method of a supertype.
type candidate struct {
	api.Method
	super api.Type
}

func (c candidate) hasBody() bool { return isBody(c.Body) }

func isBody(x api.Expr) bool {
	return x.Op != 0 || x.Text != "" || len(x.Types) > 0 || len(x.Kids) > 0
}

func isConcrete(e api.Entity) bool {
	return e.Kind == api.Class || e.Kind == api.Actor || e.Kind == api.Primitive
}

func isInherited(m api.Method) bool { return m.Kind == api.Fun || m.Kind == api.Be }

// ownType returns the type of an entity with its own parameters.
func ownType(e api.Entity) api.Type {
	var args []api.Type
	for _, b := range e.Bounds {
		args = append(args, api.Type{Kind: api.TypeParam, Name: b.Name})
	}
	return types.Named(e.Name, api.Val, args)
}

// family is an entity with its supertypes, in a program.
type family struct {
	p      []api.Entity
	entity api.Entity
	supers []api.Type
}

func newFamily(p []api.Entity, e api.Entity) (family, api.Errno) {
	l, code := subtype.Supers(p, ownType(e))
	return family{p, e, l}, code
}

// candidates returns the methods with a name of the supertypes but the own one.
func (f family) candidates(name string) []candidate {
	var l []candidate
	for _, s := range f.supers[1:] {
		i, _ := subtype.Find(f.p, s.Name)
		names := boundNames(f.p[i].Bounds)
		for _, m := range f.p[i].Methods {
			if m.Name != name || !isInherited(m) {
				continue
			}
			if m, e := types.Method(m, names, s.Args); e == api.OK {
				l = append(l, candidate{m, s})
			}
		}
	}
	return l
}

// isClear reports whether all candidates with a body are of supertypes of the type that has the default.
func (f family) isClear(first candidate, l []candidate) bool {
	supers, e := subtype.Supers(f.p, first.super)
	return e == api.OK && all(l, func(c candidate) bool {
		return !c.hasBody() || slices.ContainsFunc(supers, func(s api.Type) bool { return types.Equal(s, c.super) })
	})
}

// find returns the method that the entity has, and the name of the entity whose body it has.
func (f family) find(name string) (api.Method, string, api.Errno) {
	l := f.candidates(name)
	own := slices.IndexFunc(f.entity.Methods, func(m api.Method) bool { return m.Name == name })
	first := slices.IndexFunc(l, candidate.hasBody)
	switch {
	case own >= 0 && (first < 0 || isBody(f.entity.Methods[own].Body)):
		return f.entity.Methods[own], f.entity.Name, api.OK
	case own < 0 && len(l) == 0, first >= 0 && !f.isClear(l[first], l), first < 0 && isConcrete(f.entity):
		return api.Method{}, "", ErrMethod
	case first < 0:
		return l[0].Method, l[0].super.Name, api.OK
	}
	m := l[first].Method
	if own >= 0 {
		body := m.Body
		m = f.entity.Methods[own]
		m.Body = body
	}
	return m, l[first].super.Name, api.OK
}

// Find returns the method of an entity with a name, and the name of the entity whose body it has.
func Find(p []api.Entity, entity, name string) (api.Method, string, api.Errno) {
	if !isSmall(p) {
		return api.Method{}, "", api.ErrSize
	}
	i, e := subtype.Find(p, entity)
	if e != api.OK {
		return api.Method{}, "", e
	}
	f, e := newFamily(p, p[i])
	if e != api.OK {
		return api.Method{}, "", e
	}
	return f.find(name)
}

// Whole returns a program in which each concrete entity has all its methods itself.
func Whole(p []api.Entity) ([]api.Entity, api.Errno) {
	if !isSmall(p) {
		return nil, api.ErrSize
	}
	var l []api.Entity
	for i, e := range p {
		if first, _ := subtype.Find(p, e.Name); first == i && isConcrete(e) {
			methods, code := wholeMethods(p, e)
			if code != api.OK {
				return nil, code
			}
			e.Methods = methods
		}
		l = append(l, e)
	}
	return l, api.OK
}

// wholeMethods returns an entity's own methods, and then those that it has from its supertypes.
func wholeMethods(p []api.Entity, e api.Entity) ([]api.Method, api.Errno) {
	f, code := newFamily(p, e)
	if code != api.OK {
		return nil, code
	}
	var l []api.Method
	has := map[string]bool{}
	for _, m := range e.Methods {
		has[m.Name] = true
		if m.Kind != api.New && !isBody(m.Body) {
			found, _, code := f.find(m.Name)
			if code != api.OK {
				return nil, code
			}
			m.Body = found.Body
		}
		l = append(l, m)
	}
	inherited, code := subtype.Methods(p, ownType(e))
	if code != api.OK {
		return nil, code
	}
	for _, m := range inherited {
		if has[m.Name] || !isInherited(m) {
			continue
		}
		found, _, code := f.find(m.Name)
		if code != api.OK {
			return nil, code
		}
		l = append(l, found)
	}
	return l, api.OK
}
