// Package convention has what layers 5 and 6 agree on: which names are upper ones, and which conditions of flags hold.
package convention

import (
	"slices"
	"strings"

	"hackamore/api"
	"hackamore/syntax"
)

// Upper reports whether the first letter of a name, behind any `_`, is great.
func Upper(name string) bool {
	letters := strings.TrimLeft(name, "_")
	return letters != "" && letters[0] >= 'A' && letters[0] <= 'Z'
}

// wrong is what a walk panics with at a part that no condition has.
type wrong struct{ path []int }

// Holds reports whether a condition of a well-formed tree holds, or the path of the first part that is none: then ok is false.
func Holds(n api.Node, flags []string) (holds bool, path []int, ok bool) {
	defer func() {
		if x := recover(); x != nil {
			w, _ := x.(wrong)
			holds, path, ok = false, w.path, false
		}
	}()
	var at []int
	var ask func(n api.Node) bool
	kid := func(n api.Node, i int) bool {
		at = append(at, i)
		is := ask(n.Kids[i])
		at = at[:len(at)-1]
		return is
	}
	ask = func(n api.Node) bool {
		switch {
		case n.Kind == syntax.Name:
			return slices.Contains(flags, n.Text)
		case n.Kind == syntax.BoolLit:
			return n.Text == "true"
		case n.Kind == syntax.Unary && n.Text == "not":
			return !kid(n, 0)
		case n.Kind == syntax.Binary && (n.Text == "and" || n.Text == "or"):
			a := kid(n, 0)
			b := kid(n, 1)
			return a && b || n.Text == "or" && (a || b)
		}
		panic(wrong{slices.Clone(at)})
	}
	return ask(n), nil, true
}
