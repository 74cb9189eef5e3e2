// Package sugar is layer 5: rewriting of syntax trees to a smaller language. See shared/doc/05-sugar.md.
package sugar

import (
	"slices"

	"hackamore/api"
	"hackamore/syntax"
)

// Errors of this layer.
const (
	ErrArgs    api.Errno = 70 // arguments that do not fit the parameters of a known method, or names for an unknown one
	ErrAssign  api.Errno = 71 // an assignment to what cannot be assigned
	ErrPattern api.Errno = 72 // a pattern that is none
	ErrChain   api.Errno = 73 // a chain, or a partial application, of what is not known
)

// failure is what a rule panics with.
type failure struct {
	path []int
	code api.Errno
}

// Module returns the plain tree of a module, with flags that are set.
func Module(n api.Node, flags []string) (plain api.Node, path []int, e api.Errno) {
	if e := syntax.Check(n); e != api.OK {
		return api.Node{}, nil, e
	}
	if n.Kind != syntax.Module {
		return api.Node{}, nil, api.ErrArg
	}
	defer func() {
		if x := recover(); x != nil {
			f, ok := x.(failure)
			if !ok {
				f.code = api.ErrForm
			}
			plain, path, e = api.Node{}, slices.Clone(f.path), f.code
		}
	}()
	plain = newRewriter(n, flags).module(grow(n, nil))
	if e := syntax.Check(plain); e != api.OK {
		return api.Node{}, nil, e
	}
	return clone(plain), nil, api.OK
}

// clone returns a tree of which no two parts share memory.
func clone(n api.Node) api.Node {
	n.Kids = slices.Clone(n.Kids)
	for i, k := range n.Kids {
		n.Kids[i] = clone(k)
	}
	return n
}

// IsPlain reports whether a tree has no sugar. (The conditions of uses stay what they are: layer 6 asks for them.)
func IsPlain(n api.Node) bool {
	return syntax.Check(n) == api.OK && n.Kind == syntax.Module && isPlain(n)
}

func isPlain(n api.Node) bool {
	k := n.Kids
	ok := true
	switch n.Kind {
	case syntax.LambdaType, syntax.Tilde, syntax.Chain, syntax.Named, syntax.Array, syntax.Unary, syntax.As, syntax.Repeat,
		syntax.For, syntax.With, syntax.Ifdef, syntax.Object, syntax.Lambda, syntax.Capture:
		return false
	case syntax.Use:
		return true
	case syntax.Binary:
		ok = n.Text == "is" || n.Text == "isnt"
	case syntax.Param:
		ok = k[1].Kind == syntax.Nothing
	case syntax.Field:
		ok = k[2].Kind == syntax.Nothing
	case syntax.Assign:
		ok = k[0].Kind == syntax.Name || k[0].Kind == syntax.Decl || k[0].Kind == syntax.Dot
	case syntax.Case:
		ok = k[0].Kind == syntax.Decl
	case syntax.Call:
		ok = k[0].Kind == syntax.Dot || k[0].Kind == syntax.Qualify && k[0].Kids[0].Kind == syntax.Dot
	}
	return ok && !slices.ContainsFunc(k, func(n api.Node) bool { return !isPlain(n) })
}
