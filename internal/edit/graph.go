package edit

import (
	"slices"

	"hackamore/api"
	"hackamore/ssa"
)

// Edge is an edge between blocks: the block from which it comes, when the graph was opened, and its index among the targets there.
type Edge struct{ Block, Index int }

// node is a block whose targets are nodes, each with its edge; phis have their arguments by the edges to the block.
type node struct {
	phis  []phi
	ins   []ssa.Ins // those that are no phis
	end   ssa.End
	to    []*node
	edges []Edge
}

type phi struct {
	ssa.Ins
	args map[Edge]int
}

// Edges returns the edges to each block, in the order of the arguments of phis.
func Edges(f ssa.Func) [][]Edge {
	ahead := make([][]Edge, len(f.Blocks))
	for b, x := range f.Blocks {
		for i, to := range x.End.To {
			ahead[to] = append(ahead[to], Edge{b, i})
		}
	}
	return ahead
}

// open returns the nodes of a function that is right, which share nothing with it; their edges are numbered from a number on.
func open(f ssa.Func, first int) []*node {
	ahead := Edges(f)
	f = Copy(f)
	nodes := make([]*node, len(f.Blocks))
	for b := range nodes {
		nodes[b] = &node{}
	}
	for b, x := range f.Blocks {
		n := nodes[b]
		n.end = x.End
		for i, to := range x.End.To {
			n.to = append(n.to, nodes[to])
			n.edges = append(n.edges, Edge{first + b, i})
		}
		for _, y := range x.Ins {
			if y.Op != ssa.Phi {
				n.ins = append(n.ins, y)
				continue
			}
			p := phi{y, map[Edge]int{}}
			for k, e := range ahead[b] {
				p.args[Edge{first + e.Block, e.Index}] = y.Args[k]
			}
			n.phis = append(n.phis, p)
		}
	}
	return nodes
}

// replace replaces values in all Args.
func replace(nodes []*node, to map[int]int) {
	each := func(l []int) {
		for i, v := range l {
			if n, ok := to[v]; ok {
				l[i] = n
			}
		}
	}
	for _, n := range nodes {
		for _, p := range n.phis {
			for _, e := range p.edges() {
				if v, ok := to[p.args[e]]; ok {
					p.args[e] = v
				}
			}
		}
		for _, x := range n.ins {
			each(x.Args)
		}
		each(n.end.Args)
		each(n.end.Call.Args)
	}
}

// edges returns the edges for which a phi has arguments.
func (p phi) edges() []Edge {
	var l []Edge
	for e := range p.args {
		l = append(l, e)
	}
	return l
}

// blocks returns the blocks of the nodes that the first one reaches, in their order; arguments of phis stand in the order of the edges, and there are none for edges that are gone.
func blocks(nodes []*node) []ssa.Block {
	reached := map[*node]bool{nodes[0]: true}
	work := []*node{nodes[0]}
	for len(work) > 0 {
		n := work[len(work)-1]
		work = work[:len(work)-1]
		for _, to := range n.to {
			if !reached[to] {
				reached[to] = true
				work = append(work, to)
			}
		}
	}
	nodes = slices.DeleteFunc(slices.Clone(nodes), func(n *node) bool { return !reached[n] })
	number := map[*node]int{}
	for b, n := range nodes {
		number[n] = b
	}
	ahead := make([][]Edge, len(nodes))
	for _, n := range nodes {
		for i, to := range n.to {
			ahead[number[to]] = append(ahead[number[to]], n.edges[i])
		}
	}
	var out []ssa.Block
	for b, n := range nodes {
		x := ssa.Block{End: n.end}
		x.End.To = nil
		for _, to := range n.to {
			x.End.To = append(x.End.To, number[to])
		}
		for _, p := range n.phis {
			y := p.Ins
			y.Args = nil
			for _, e := range ahead[b] {
				y.Args = append(y.Args, p.args[e])
			}
			x.Ins = append(x.Ins, y)
		}
		x.Ins = append(x.Ins, n.ins...)
		out = append(out, x)
	}
	return out
}

// Keep makes of the end of a block a jump to one of its targets.
func Keep(f *ssa.Func, block, index int) {
	nodes := open(*f, 0)
	n := nodes[block]
	n.end = ssa.End{Kind: ssa.Jump}
	n.to, n.edges = n.to[index:index+1], n.edges[index:index+1]
	f.Blocks = blocks(nodes)
}

// Join puts the block to which a block jumps, and to which nothing else goes, behind its instructions.
func Join(f *ssa.Func, block int) {
	nodes := open(*f, 0)
	n := nodes[block]
	next := n.to[0]
	to := map[int]int{}
	for _, p := range next.phis {
		to[p.Result] = p.args[n.edges[0]]
	}
	n.ins = append(n.ins, next.ins...)
	n.end, n.to, n.edges = next.end, next.to, next.edges
	nodes = slices.DeleteFunc(nodes, func(m *node) bool { return m == next })
	replace(nodes, to)
	f.Blocks = blocks(nodes)
}

// Inline puts a function in the place of a direct call of it.
func Inline(f *ssa.Func, at Place, callee ssa.Func) {
	call := f.Blocks[at.Block].Ins[at.At]
	nodes := open(*f, 0)
	n := nodes[at.Block]
	place := at.At - len(n.phis)
	inner := open(callee, len(nodes))
	renumber(inner, callee, call.Args, Count(*f))
	all := phi{ssa.Ins{Op: ssa.Phi, Result: call.Result, Type: call.Type}, map[Edge]int{}}
	next := &node{ins: slices.Clone(n.ins[place+1:]), end: n.end, to: n.to, edges: n.edges}
	n.ins = n.ins[:place]
	n.end, n.to, n.edges = ssa.End{Kind: ssa.Jump}, inner[:1], []Edge{{len(nodes) + len(inner), 0}}
	for i, m := range inner {
		if m.end.Kind == ssa.Return {
			e := Edge{len(nodes) + i, 0}
			all.args[e] = m.end.Args[0]
			m.end, m.to, m.edges = ssa.End{Kind: ssa.Jump}, []*node{next}, []Edge{e}
		}
	}
	next.phis = []phi{all}
	nodes = slices.Insert(nodes, at.Block+1, append(slices.Clone(inner), next)...)
	f.Blocks = blocks(nodes)
}

// renumber gives the values of a function, in the order in which they are made, numbers from one on; its parameters become arguments.
func renumber(nodes []*node, f ssa.Func, args []int, first int) {
	to := map[int]int{}
	for i, v := range args {
		to[i] = v
	}
	for b, x := range f.Blocks {
		for _, y := range x.Ins {
			to[y.Result] = first
			first++
		}
		if x.End.Kind == ssa.Try {
			to[x.End.Call.Result] = first
			nodes[b].end.Call.Result = first
			first++
		}
	}
	for _, n := range nodes {
		for i := range n.phis {
			n.phis[i].Result = to[n.phis[i].Result]
		}
		for i := range n.ins {
			n.ins[i].Result = to[n.ins[i].Result]
		}
	}
	replace(nodes, to)
}

// Same reports whether two instructions are equal but for what they make.
func Same(a, b ssa.Ins) bool {
	return a.Op == b.Op && SameType(a.Type, b.Type) && slices.Equal(a.Args, b.Args) && a.Text == b.Text && a.Name == b.Name &&
		SameValue(a.Lit, b.Lit) && a.N == b.N && a.Flag == b.Flag
}

// isShared reports whether two lists are one in memory.
func isShared[T any](a, b []T) bool { return len(a) == len(b) && (len(a) == 0 || &a[0] == &b[0]) }

// SameType reports whether two types are equal in all fields.
func SameType(a, b api.Type) bool {
	return a.Kind == b.Kind && a.Name == b.Name && a.Cap == b.Cap && a.Mark == b.Mark &&
		(isShared(a.Args, b.Args) || slices.EqualFunc(a.Args, b.Args, SameType))
}

// SameValue reports whether two values are equal in all fields.
func SameValue(a, b api.Value) bool {
	return a.Kind == b.Kind && a.Lo == b.Lo && a.Hi == b.Hi && a.Name == b.Name &&
		(isShared(a.Kids, b.Kids) || slices.EqualFunc(a.Kids, b.Kids, SameValue))
}
