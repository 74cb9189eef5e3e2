// Package same tells whether types, values and expressions are equal in all fields. Lists that are shared in memory are not compared more than once, however often they are met.
package same

import (
	"slices"

	"hackamore/api"
)

// pair is two lists of one length.
type pair[T any] struct {
	a, b *T
	n    int
}

// lists knows which lists are equal.
type lists[T any] map[pair[T]]bool

// equal compares two lists by a comparison of their elements.
func (known lists[T]) equal(a, b []T, same func(a, b T) bool) bool {
	if len(a) != len(b) || len(a) == 0 {
		return len(a) == len(b)
	}
	key := pair[T]{&a[0], &b[0], len(a)}
	if key.a == key.b || known[key] {
		return true
	}
	isEqual := slices.EqualFunc(a, b, same)
	known[key] = isEqual // if it is not, nothing is asked any more
	return isEqual
}

// Type reports whether two types are equal.
func Type(a, b api.Type) bool {
	if len(a.Args) == 0 || len(b.Args) == 0 {
		return len(a.Args) == len(b.Args) && isTypeAlone(a, b)
	}
	known := lists[api.Type]{}
	var same func(a, b api.Type) bool
	same = func(a, b api.Type) bool { return isTypeAlone(a, b) && known.equal(a.Args, b.Args, same) }
	return same(a, b)
}

func isTypeAlone(a, b api.Type) bool {
	return a.Kind == b.Kind && a.Name == b.Name && a.Cap == b.Cap && a.Mark == b.Mark
}

// Value reports whether two values are equal.
func Value(a, b api.Value) bool {
	if len(a.Kids) == 0 || len(b.Kids) == 0 {
		return len(a.Kids) == len(b.Kids) && isValueAlone(a, b)
	}
	known := lists[api.Value]{}
	var same func(a, b api.Value) bool
	same = func(a, b api.Value) bool { return isValueAlone(a, b) && known.equal(a.Kids, b.Kids, same) }
	return same(a, b)
}

func isValueAlone(a, b api.Value) bool {
	return a.Kind == b.Kind && a.Lo == b.Lo && a.Hi == b.Hi && a.Name == b.Name
}

// Expr reports whether two expressions are equal.
func Expr(a, b api.Expr) bool {
	known := lists[api.Expr]{}
	var same func(a, b api.Expr) bool
	same = func(a, b api.Expr) bool {
		return a.Op == b.Op && a.Text == b.Text && slices.EqualFunc(a.Types, b.Types, Type) && known.equal(a.Kids, b.Kids, same)
	}
	return same(a, b)
}
