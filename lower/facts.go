package lower

import (
	"slices"

	"hackamore/api"
	"hackamore/num"
	"hackamore/world"
)

// facts is what is known of a whole program: for each name of a method the actors of which it is a behaviour, and whether a value may have a function, or a method of the runtime, with this name; and the names of methods that may raise an error.
type facts struct {
	w        *world.World
	entities map[string]api.Entity
	bes      map[string][]string
	others   map[string]bool
	raising  map[string]bool
}

func factsOf(w *world.World, p []api.Entity) *facts {
	f := &facts{w, map[string]api.Entity{}, map[string][]string{}, map[string]bool{}, map[string]bool{}}
	for _, x := range p {
		f.entities[x.Name] = x
	}
	for _, x := range p {
		for _, m := range x.Methods {
			f.raising[m.Name] = f.raising[m.Name] || m.Partial
		}
		if hasObjects(x) {
			f.note(x)
		}
	}
	f.noteRuntime()
	return f
}

// note notes the methods that values of an entity have.
func (f *facts) note(x api.Entity) {
	for _, name := range f.names(x.Name) {
		m, e := f.w.Method(x.Name, name)
		switch {
		case e != api.OK:
		case m.Kind != api.Be:
			f.others[name] = f.others[name] || hasBody(m)
		case x.Kind == api.Actor:
			f.bes[name] = append(f.bes[name], x.Name)
		}
	}
}

// noteRuntime notes the methods that the runtime gives.
func (f *facts) noteRuntime() {
	names := []string{"string", "size", "apply", "add", "eq", "ne", "lt", "le", "gt", "ge", "substring", "update", "push", "pop"}
	if m, e := f.w.Method("Out", "print"); e != api.OK || m.Kind != api.Be {
		names = append(names, "print")
	}
	for _, raises := range []string{"apply", "update", "pop"} {
		f.raising[raises] = true
	}
	for _, typ := range append(num.Types(), "Bool") {
		methods, _ := num.Methods(typ)
		for _, m := range methods {
			names = append(names, m.Name)
			f.raising[m.Name] = f.raising[m.Name] || m.Partial
		}
	}
	for _, name := range names {
		f.others[name] = true
	}
}

// names returns the names of the methods of an entity, in the order in which it, and then what it provides, name them first.
func (f *facts) names(entity string) []string {
	var l []string
	seen, known := map[string]bool{}, map[string]bool{}
	var walk func(name string)
	walk = func(name string) {
		x, ok := f.entities[name]
		if !ok || seen[name] {
			return
		}
		seen[name] = true
		for _, m := range x.Methods {
			if !known[m.Name] {
				known[m.Name] = true
				l = append(l, m.Name)
			}
		}
		for _, t := range x.Provides {
			if t.Kind == api.TypeName {
				walk(t.Name)
			}
		}
	}
	walk(entity)
	return l
}

// actorsType returns the type that the actors have of which a name is a behaviour: unions of a few names each, as types may not have more.
func (f *facts) actorsType(method string) api.Type {
	var l []api.Type
	for _, name := range f.bes[method] {
		l = append(l, named(name, api.Tag))
	}
	for len(l) > 1 {
		var above []api.Type
		for part := range slices.Chunk(l, api.MaxList) {
			t := part[0]
			if len(part) > 1 {
				t = api.Type{Kind: api.TypeUnion, Args: part}
			}
			above = append(above, t)
		}
		l = above
	}
	return l[0]
}

func named(name string, c int) api.Type {
	return api.Type{Kind: api.TypeName, Name: name, Cap: c}
}

// field returns the type of a field, the zero type if the type of its object does not tell it.
func (f *facts) field(t api.Type, name string) api.Type {
	if t.Kind == api.TypeName {
		for _, x := range f.entities[t.Name].Fields {
			if x.Name == name {
				return x.Type
			}
		}
	}
	return api.Type{}
}

// result returns the type of what a method returns, the zero type if the type of its receiver does not tell it.
func (f *facts) result(t api.Type, name string) api.Type {
	if t.Kind != api.TypeName {
		return api.Type{}
	}
	m, e := f.w.Method(t.Name, name)
	switch {
	case e != api.OK:
		return api.Type{}
	case m.Kind == api.Be:
		return named("None", api.Val)
	case m.Kind == api.Fun:
		return m.Result
	}
	return api.Type{}
}
