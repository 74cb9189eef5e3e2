package sample

import "hackamore/api"

// TypeMaker makes types; Pick returns a number from 0 to n - 1, by chance.
type TypeMaker struct {
	Pick func(n int) int
	// Names are those of entities, by the numbers of their type arguments.
	Names map[int][]string
	// Params are the type parameters that may occur; Self, if the receiver may.
	Params []string
	Self   bool
	// Plain types have no marks.
	Plain bool
}

func (m TypeMaker) mark() int {
	if m.Plain {
		return api.Plain
	}
	return []int{api.Plain, api.Plain, api.Plain, api.Ephemeral, api.Aliased}[m.Pick(5)]
}

func (m TypeMaker) capability() int { return api.Iso + m.Pick(6) }

func (m TypeMaker) maybeCapability() int {
	if m.Pick(2) == 0 {
		return api.CapNone
	}
	return m.capability()
}

// Type returns a well-formed type, whose parts have at most a depth.
func (m TypeMaker) Type(depth int) api.Type {
	kind := m.Pick(10)
	switch {
	case depth > 0 && kind < 4:
		t := api.Type{Kind: []int{api.TypeUnion, api.TypeBoth, api.TypeTuple, api.TypeUnion}[kind]}
		for range 2 + m.Pick(2) {
			t.Args = append(t.Args, m.Type(depth-1))
		}
		return t
	case depth > 0 && kind == 4 && (m.Self || len(m.Params) > 0):
		return api.Type{Kind: api.TypeArrow, Args: []api.Type{m.first(), m.Type(depth - 1)}}
	case kind == 5 && len(m.Params) > 0:
		return m.param()
	case kind == 6 && m.Self:
		return m.self()
	}
	return m.Named(depth)
}

func (m TypeMaker) first() api.Type {
	if m.Self && (len(m.Params) == 0 || m.Pick(2) == 0) {
		return m.self()
	}
	return m.param()
}

func (m TypeMaker) self() api.Type {
	return api.Type{Kind: api.TypeSelf, Cap: m.maybeCapability(), Mark: m.mark()}
}

func (m TypeMaker) param() api.Type {
	return api.Type{Kind: api.TypeParam, Name: m.Params[m.Pick(len(m.Params))], Cap: m.maybeCapability(), Mark: m.mark()}
}

// Named returns the type of an entity.
func (m TypeMaker) Named(depth int) api.Type {
	arity := 0
	if depth > 0 {
		arity = m.Pick(3)
	}
	for len(m.Names[arity]) == 0 {
		arity = (arity + 2) % 3
	}
	l := m.Names[arity]
	t := api.Type{Kind: api.TypeName, Name: l[m.Pick(len(l))], Cap: m.capability(), Mark: m.mark()}
	for range arity {
		t.Args = append(t.Args, m.Type(depth-1))
	}
	return t
}

// Any returns a type of any form, right or wrong.
func (m TypeMaker) Any(depth int) api.Type {
	names := []string{"", "", "A", "main.Cell", "T", "\xff", "a b"}
	t := api.Type{Kind: m.Pick(9), Name: names[m.Pick(len(names))]}
	if m.Pick(2) == 0 {
		t.Cap, t.Mark = m.Pick(9), m.Pick(4)
	}
	if depth > 0 {
		for range m.Pick(4) {
			t.Args = append(t.Args, m.Any(depth-1))
		}
	}
	return t
}

// Wrong returns a type that differs at one place from another one.
func (m TypeMaker) Wrong(t api.Type) api.Type {
	if n := len(t.Args); n > 0 && m.Pick(3) > 0 {
		i := m.Pick(n)
		args := append([]api.Type(nil), t.Args...)
		args[i] = m.Wrong(args[i])
		t.Args = args
		return t
	}
	switch m.Pick(5) {
	case 0:
		t.Kind = m.Pick(9)
	case 1:
		t.Name += []string{"", "x", "\xff"}[m.Pick(3)]
	case 2:
		t.Cap = m.Pick(13) - 1
	case 3:
		t.Mark = m.Pick(5) - 1
	case 4:
		t.Args = append(append([]api.Type(nil), t.Args...), m.Any(0))
	}
	return t
}
