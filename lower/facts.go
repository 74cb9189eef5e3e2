package lower

import (
	"iter"
	"slices"

	"hackamore/api"
	"hackamore/num"
)

// facts is what is known of a whole program: for each name of a method the actors of which it is a behaviour, and whether a value may have a function, or a method of the runtime, with this name; the names of methods that may raise an error; and the intrinsics.
type facts struct {
	entities map[string]api.Entity
	bes      map[string][]string
	others   map[string]bool
	raising  map[string]bool
	known    map[intrinsic]signature
}

func factsOf(p []api.Entity) *facts {
	f := &facts{entities: map[string]api.Entity{}, bes: map[string][]string{}, others: map[string]bool{}, raising: map[string]bool{}}
	for _, x := range p {
		if _, ok := f.entities[x.Name]; !ok {
			f.entities[x.Name] = x
		}
	}
	for _, x := range p {
		for _, m := range x.Methods {
			f.raising[m.Name] = f.raising[m.Name] || m.Partial
		}
		if hasObjects(x) {
			f.note(x)
		}
	}
	f.noteRuntime()
	f.known = f.intrinsics()
	return f
}

// note notes the methods that values of an entity have.
func (f *facts) note(x api.Entity) {
	for _, name := range f.names(x.Name) {
		switch m, _ := f.method(x.Name, name); {
		case m.Kind != api.Be:
			f.others[name] = f.others[name] || hasBody(m)
		case x.Kind == api.Actor:
			f.bes[name] = append(f.bes[name], x.Name)
		}
	}
}

// noteRuntime notes the methods that the runtime gives.
func (f *facts) noteRuntime() {
	names := []string{"string", "size", "apply", "add", "eq", "ne", "lt", "le", "gt", "ge", "substring", "update", "push", "pop"}
	if m, _ := f.method("Out", "print"); m.Kind != api.Be {
		names = append(names, "print")
	}
	for _, raises := range []string{"apply", "update", "pop"} {
		f.raising[raises] = true
	}
	for _, typ := range append(num.Types(), "Bool") {
		methods, _ := num.Methods(typ)
		for _, m := range methods {
			names = append(names, m.Name)
			f.raising[m.Name] = f.raising[m.Name] || m.Partial
		}
	}
	for _, name := range names {
		f.others[name] = true
	}
}

// each hands on an entity, and then what it provides, in depth, each one once, as world's Method goes through them.
func (f *facts) each(entity string) iter.Seq[api.Entity] {
	return func(yield func(api.Entity) bool) {
		seen := map[string]bool{}
		var walk func(name string) bool
		walk = func(name string) bool {
			x, ok := f.entities[name]
			if !ok || seen[name] {
				return true
			}
			seen[name] = true
			if !yield(x) {
				return false
			}
			for _, t := range x.Provides {
				if t.Kind == api.TypeName && !walk(t.Name) {
					return false
				}
			}
			return true
		}
		walk(entity)
	}
}

// method returns the method that world's Method finds.
func (f *facts) method(entity, name string) (api.Method, bool) {
	for x := range f.each(entity) {
		for _, m := range x.Methods {
			if m.Name == name {
				return m, true
			}
		}
	}
	return api.Method{}, false
}

// names returns the names of the methods of an entity, in the order in which it, and then what it provides, name them first.
func (f *facts) names(entity string) []string {
	var l []string
	known := map[string]bool{}
	for x := range f.each(entity) {
		for _, m := range x.Methods {
			if !known[m.Name] {
				known[m.Name] = true
				l = append(l, m.Name)
			}
		}
	}
	return l
}

// actorsType returns the type that the actors have of which a name is a behaviour: unions of a few names each, as types may not have more.
func (f *facts) actorsType(method string) api.Type {
	var l []api.Type
	for _, name := range f.bes[method] {
		l = append(l, named(name, api.Tag))
	}
	for len(l) > 1 {
		var above []api.Type
		for part := range slices.Chunk(l, api.MaxList) {
			t := part[0]
			if len(part) > 1 {
				t = api.Type{Kind: api.TypeUnion, Args: part}
			}
			above = append(above, t)
		}
		l = above
	}
	return l[0]
}

func named(name string, c int) api.Type {
	return api.Type{Kind: api.TypeName, Name: name, Cap: c}
}

// field returns the type of a field, the zero type if the type of its object does not tell it.
func (f *facts) field(t api.Type, name string) api.Type {
	if t.Kind == api.TypeName {
		for _, x := range f.entities[t.Name].Fields {
			if x.Name == name {
				return x.Type
			}
		}
	}
	return api.Type{}
}

// result returns the type of what a method returns, the zero type if the type of its receiver does not tell it.
func (f *facts) result(t api.Type, name string) api.Type {
	if t.Kind != api.TypeName {
		return api.Type{}
	}
	switch m, _ := f.method(t.Name, name); m.Kind {
	case api.Be:
		return named("None", api.Val)
	case api.Fun:
		return m.Result
	}
	return api.Type{}
}
