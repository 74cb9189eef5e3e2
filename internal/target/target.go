// Package target finds the functions that a call can reach, for a value of a type.
package target

import (
	"slices"

	"hackamore/api"
	"hackamore/ssa"
	"hackamore/subtype"
	"hackamore/types"
)

// Finder finds targets in a program that is right. It keeps what it has found.
type Finder struct {
	entities  []api.Entity
	functions map[string]bool
	names     map[string][]string // by the text of a type
}

// Of returns a Finder for a program.
func Of(p ssa.Program) *Finder {
	f := &Finder{p.Entities, map[string]bool{}, map[string][]string{}}
	for _, x := range p.Funcs {
		f.functions[x.Name] = true
	}
	return f
}

// takes reports whether a value of an entity with a name may have a type.
func (f *Finder) takes(t api.Type, name string) bool {
	some := func(a api.Type) bool { return f.takes(a, name) }
	switch t.Kind {
	case api.TypeArrow:
		return some(t.Args[1])
	case api.TypeUnion:
		return slices.ContainsFunc(t.Args, some)
	case api.TypeBoth:
		return !slices.ContainsFunc(t.Args, func(a api.Type) bool { return !some(a) })
	}
	return subtype.Bare(f.entities, types.Named(name, api.Val, nil), t)
}

// taken returns the names of classes, actors and primitives that a type takes.
func (f *Finder) taken(t api.Type) []string {
	text, _ := types.Text(t)
	l, ok := f.names[text]
	if ok {
		return l
	}
	for _, x := range f.entities {
		if (x.Kind == api.Class || x.Kind == api.Actor || x.Kind == api.Primitive) && f.takes(t, x.Name) {
			l = append(l, x.Name)
		}
	}
	f.names[text] = l
	return l
}

// Targets returns the names of the functions that a call of a method can reach, for a value of a type.
func (f *Finder) Targets(t api.Type, method string) ([]string, api.Errno) {
	if e := types.Check(t); e != api.OK {
		return nil, e
	}
	var l []string
	for _, name := range f.taken(t) {
		l = append(l, name+"."+method)
	}
	for _, name := range l {
		if !f.functions[name] {
			return nil, api.ErrNone
		}
	}
	slices.Sort(l)
	return slices.Compact(l), api.OK
}
