// Package syntax is layer 2: syntax trees as plain data. See shared/doc/02-syntax.md.
package syntax

import (
	"iter"
	"slices"

	"hackamore/api"
)

// Kinds of nodes.
const (
	Module     = 1
	Use        = 2
	Entity     = 3
	Word       = 4
	Nothing    = 5
	Bounds     = 6
	Bound      = 7
	Field      = 8
	Method     = 9
	Params     = 10
	Param      = 11
	NamedType  = 12
	UnionType  = 13
	BothType   = 14
	TupleType  = 15
	ArrowType  = 16
	ThisType   = 17
	LambdaType = 18
	IntLit     = 19
	FloatLit   = 20
	StringLit  = 21
	BoolLit    = 22
	Name       = 23
	This       = 24
	Seq        = 25
	Decl       = 26
	Assign     = 27
	Dot        = 28
	Tilde      = 29
	Chain      = 30
	Call       = 31
	Named      = 32
	Qualify    = 33
	Tuple      = 34
	Array      = 35
	Unary      = 36
	Binary     = 37
	As         = 38
	Consume    = 39
	Recover    = 40
	If         = 41
	Ifdef      = 42
	While      = 43
	Repeat     = 44
	For        = 45
	With       = 46
	Match      = 47
	Case       = 48
	Try        = 49
	Error      = 50
	Return     = 51
	Break      = 52
	Continue   = 53
	Object     = 54
	Lambda     = 55
	Capture    = 56
	Last       = 56
)

// Check returns the error of a tree whose root is of any kind.
func Check(n api.Node) api.Errno {
	if !fits(n) {
		return api.ErrSize
	}
	return checkForm(n)
}

// fits reports whether a tree is not too large. It looks at no more of it than it must.
func fits(n api.Node) bool {
	left := api.MaxNodes
	var count func(n api.Node, depth int) bool
	count = func(n api.Node, depth int) bool {
		left--
		if left < 0 || depth > api.MaxTree {
			return false
		}
		for _, k := range n.Kids {
			if !count(k, depth+1) {
				return false
			}
		}
		return true
	}
	return count(n, 1)
}

// Size returns the number of nodes and the depth of a tree.
func Size(n api.Node) (nodes, depth int) {
	nodes = 1
	for _, k := range n.Kids {
		more, deep := Size(k)
		nodes += more
		depth = max(depth, deep)
	}
	return nodes, depth + 1
}

// Equal reports whether two trees are equal.
func Equal(a, b api.Node) bool {
	return a.Kind == b.Kind && a.Text == b.Text && slices.EqualFunc(a.Kids, b.Kids, Equal)
}

// IsType, IsExpr and IsMember report whether a node is of a group.
func IsType(n api.Node) bool { return n.Kind >= NamedType && n.Kind <= LambdaType }

// IsExpr reports whether a node is an expression.
func IsExpr(n api.Node) bool {
	return n.Kind >= IntLit && n.Kind <= Lambda && n.Kind != Named && n.Kind != Case
}

// IsMember reports whether a node is a field or a method.
func IsMember(n api.Node) bool { return n.Kind == Field || n.Kind == Method }

// steps hands on, step by step, the nodes ahead of each index of a path, as far as it leads.
func steps(n api.Node, path []int) iter.Seq2[int, api.Node] {
	return func(yield func(int, api.Node) bool) {
		for _, i := range path {
			if i < 0 || i >= len(n.Kids) || !yield(i, n) {
				return
			}
			n = n.Kids[i]
		}
	}
}

// At returns the part at a path.
func At(n api.Node, path []int) (api.Node, api.Errno) {
	left := len(path)
	for i, above := range steps(n, path) {
		n = above.Kids[i]
		left--
	}
	if left > 0 {
		return api.Node{}, api.ErrNone
	}
	return n, api.OK
}

// Put returns a tree with another part at a path.
func Put(n api.Node, path []int, part api.Node) (api.Node, api.Errno) {
	var above []api.Node
	for _, a := range steps(n, path) {
		above = append(above, a)
	}
	if len(above) < len(path) {
		return api.Node{}, api.ErrNone
	}
	for i, a := range slices.Backward(above) {
		a.Kids = slices.Clone(a.Kids)
		a.Kids[path[i]] = part
		part = a
	}
	return part, api.OK
}
