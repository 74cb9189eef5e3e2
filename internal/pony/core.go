package pony

import (
	"slices"
	"strings"

	"hackamore/api"
	"hackamore/types"
)

// Type returns the type with a text; the zero type for an empty one, and for `-`.
func Type(s string) api.Type {
	if s == "" || s == "-" {
		return api.Type{}
	}
	t, e := types.Parse(s)
	if e != api.OK {
		panic("types: error " + e.Error() + " of " + s)
	}
	return t
}

// Types returns the types with texts.
func Types(l ...string) []api.Type {
	var out []api.Type
	for _, s := range l {
		out = append(out, Type(s))
	}
	return out
}

// Expr returns an expression of the core; behind a colon and a space in its text stands the text of its type.
func Expr(op int, s string, kids ...api.Expr) api.Expr {
	text, t, _ := strings.Cut(s, ": ")
	x := api.Expr{Op: op, Text: text, Kids: kids}
	if t != "" {
		x.Types = Types(t)
	}
	return x
}

// At returns the numbers of an entity, and of a method of it (-1, if it has none of the name).
func At(p []api.Entity, entity, method string) (int, int) {
	i := slices.IndexFunc(p, func(e api.Entity) bool { return e.Name == entity })
	if i < 0 {
		panic("no entity " + entity)
	}
	return i, slices.IndexFunc(p[i].Methods, func(m api.Method) bool { return m.Name == method })
}

// With returns a program in which a method is changed, and its numbers. The program itself stays.
func With(p []api.Entity, entity, method string, change func(*api.Method)) ([]api.Entity, int, int) {
	i, j := At(p, entity, method)
	p = slices.Clone(p)
	p[i].Methods = slices.Clone(p[i].Methods)
	change(&p[i].Methods[j])
	return p, i, j
}
