package sugar

import (
	"slices"

	"hackamore/api"
	"hackamore/convention"
	"hackamore/syntax"
)

// scope has the types of the locals of a body; outer is that of the body around it.
type scope struct {
	types map[string]*tree
	outer *scope
}

func (s *scope) find(name string) *tree {
	for ; s != nil; s = s.outer {
		if t := s.types[name]; t != nil {
			return t
		}
	}
	return nil
}

// bounds are those of an entity or a method: their names, and, once they are rewritten, they themselves.
type bounds struct {
	names []string
	nodes []api.Node
}

func newBounds(t *tree) *bounds {
	b := &bounds{}
	for _, k := range t.kids {
		b.names = append(b.names, k.text)
	}
	return b
}

// owner is an entity whose members are rewritten; literal is what it was made of, if it is none of the module.
type owner struct {
	name    string
	fields  map[string]bool
	methods map[string]*tree
	bounds  []*bounds
	literal *literal
}

// newOwner returns the owner of members.
func newOwner(name string, members []*tree) *owner {
	o := &owner{name: name, fields: map[string]bool{}, methods: map[string]*tree{}}
	for _, m := range members {
		switch {
		case m.kind == syntax.Field:
			o.fields[m.text] = true
		case m.kind == syntax.Method && o.methods[m.text] == nil:
			o.methods[m.text] = m
		}
	}
	return o
}

// literal is an object literal or a lambda: where it stands, and which locals it uses, in the order of their first uses.
type literal struct {
	outer *context
	used  []local
}

type local struct {
	name string
	typ  *tree
}

func (l *literal) use(name string, typ *tree) {
	if !slices.ContainsFunc(l.used, func(x local) bool { return x.name == name }) {
		l.used = append(l.used, local{name, typ})
	}
}

// context is where an expression stands. In a default value no method is known;
// where values is set, what a literal uses of its locals are parameters.
type context struct {
	owner     *owner
	bounds    []*bounds
	scope     *scope
	byDefault bool
	values    bool
}

// What a name means.
const (
	isUnknown = iota
	isLocal
	isField
)

// resolve returns what a name means, and its type, if it is a local here or around the literal: then the literal uses it.
func (c *context) resolve(name string) (int, *tree) {
	if convention.Upper(name) {
		return isUnknown, nil
	}
	if t := c.scope.find(name); t != nil {
		return isLocal, t
	}
	if c.owner.fields[name] {
		return isField, nil
	}
	l := c.owner.literal
	if l == nil {
		return isUnknown, nil
	}
	_, t := l.outer.resolve(name)
	if t == nil {
		return isUnknown, nil
	}
	l.use(name, t)
	if c.values {
		return isLocal, t
	}
	return isField, t
}

func (c *context) meaning(name string) int {
	m, _ := c.resolve(name)
	return m
}

// boundNames are the names of all type parameters in scope, as type arguments.
func boundNames(l []*bounds) []api.Node {
	var names []api.Node
	for _, b := range l {
		for _, n := range b.names {
			names = append(names, namedType(n, ""))
		}
	}
	return names
}
