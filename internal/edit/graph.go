package edit

import (
	"slices"

	"hackamore/internal/same"
	"hackamore/ssa"
)

// Edge is an edge between blocks: the block from which it comes, when the graph was opened, and its index among the targets there.
type Edge struct{ Block, Index int }

// node is a block whose targets are nodes, each with its edge; in are the edges to it, in the order of the arguments of its phis.
type node struct {
	ins   []ssa.Ins
	end   ssa.End
	to    []*node
	edges []Edge
	in    []Edge
}

// Edges returns the edges to each block, in the order of the arguments of phis.
func Edges(f ssa.Func) [][]Edge {
	ahead := make([][]Edge, len(f.Blocks))
	for b, x := range f.Blocks {
		for i, to := range x.End.To {
			ahead[to] = append(ahead[to], Edge{b, i})
		}
	}
	return ahead
}

// open returns the nodes of a function that is right, which share nothing with it; their edges are numbered from a number on.
func open(f ssa.Func, first int) []*node {
	ahead := Edges(f)
	f = Copy(f)
	nodes := make([]*node, len(f.Blocks))
	for b, x := range f.Blocks {
		nodes[b] = &node{ins: x.Ins, end: x.End}
		for _, e := range ahead[b] {
			nodes[b].in = append(nodes[b].in, Edge{first + e.Block, e.Index})
		}
	}
	for b, x := range f.Blocks {
		for i, to := range x.End.To {
			nodes[b].to = append(nodes[b].to, nodes[to])
			nodes[b].edges = append(nodes[b].edges, Edge{first + b, i})
		}
	}
	return nodes
}

// replace replaces values in all Args.
func replace(nodes []*node, to map[int]int) {
	each := func(l []int) {
		for i, v := range l {
			if n, ok := to[v]; ok {
				l[i] = n
			}
		}
	}
	for _, n := range nodes {
		for _, x := range n.ins {
			each(x.Args)
		}
		each(n.end.Args)
		each(n.end.Call.Args)
	}
}

// reached returns the nodes that the first one reaches, in their order.
func reached(nodes []*node) []*node {
	seen := map[*node]bool{nodes[0]: true}
	work := []*node{nodes[0]}
	for len(work) > 0 {
		n := work[len(work)-1]
		work = work[:len(work)-1]
		for _, to := range n.to {
			if !seen[to] {
				seen[to] = true
				work = append(work, to)
			}
		}
	}
	return slices.DeleteFunc(slices.Clone(nodes), func(n *node) bool { return !seen[n] })
}

// enter puts the arguments of a node's phis into the order of edges, without those of edges that are gone.
func (n *node) enter(edges []Edge) {
	if slices.Equal(n.in, edges) {
		return
	}
	place := map[Edge]int{}
	for i, e := range n.in {
		place[e] = i
	}
	for i := 0; i < len(n.ins) && n.ins[i].Op == ssa.Phi; i++ {
		var args []int
		for _, e := range edges {
			args = append(args, n.ins[i].Args[place[e]])
		}
		n.ins[i].Args = args
	}
}

// blocks returns the blocks of the nodes that the first one reaches.
func blocks(nodes []*node) []ssa.Block {
	nodes = reached(nodes)
	number := map[*node]int{}
	for b, n := range nodes {
		number[n] = b
	}
	ahead := make([][]Edge, len(nodes))
	for _, n := range nodes {
		for i, to := range n.to {
			ahead[number[to]] = append(ahead[number[to]], n.edges[i])
		}
	}
	var out []ssa.Block
	for b, n := range nodes {
		n.enter(ahead[b])
		n.end.To = nil
		for _, to := range n.to {
			n.end.To = append(n.end.To, number[to])
		}
		out = append(out, ssa.Block{Ins: n.ins, End: n.end})
	}
	return out
}

// Keep makes of the end of a block a jump to one of its targets.
func Keep(f *ssa.Func, block, index int) {
	nodes := open(*f, 0)
	n := nodes[block]
	n.end = ssa.End{Kind: ssa.Jump}
	n.to, n.edges = n.to[index:index+1], n.edges[index:index+1]
	f.Blocks = blocks(nodes)
}

// Join puts the block to which a block jumps, and to which nothing else goes, behind its instructions.
func Join(f *ssa.Func, block int) {
	nodes := open(*f, 0)
	n := nodes[block]
	next := n.to[0]
	to := map[int]int{}
	phis := 0
	for ; phis < len(next.ins) && next.ins[phis].Op == ssa.Phi; phis++ {
		to[next.ins[phis].Result] = next.ins[phis].Args[0]
	}
	n.ins = append(n.ins, next.ins[phis:]...)
	n.end, n.to, n.edges = next.end, next.to, next.edges
	nodes = slices.DeleteFunc(nodes, func(m *node) bool { return m == next })
	replace(nodes, to)
	f.Blocks = blocks(nodes)
}

// Inline puts a function in the place of a direct call of it.
func Inline(f *ssa.Func, at Place, callee ssa.Func) {
	call := f.Blocks[at.Block].Ins[at.At]
	nodes := open(*f, 0)
	n := nodes[at.Block]
	inner := open(callee, len(nodes))
	renumber(inner, callee, call.Args, Count(*f))
	all := ssa.Ins{Op: ssa.Phi, Result: call.Result, Type: call.Type}
	next := &node{end: n.end, to: n.to, edges: n.edges}
	for i, m := range inner {
		if m.end.Kind == ssa.Return {
			e := Edge{len(nodes) + i, 0}
			all.Args = append(all.Args, m.end.Args[0])
			next.in = append(next.in, e)
			m.end, m.to, m.edges = ssa.End{Kind: ssa.Jump}, []*node{next}, []Edge{e}
		}
	}
	next.ins = append([]ssa.Ins{all}, n.ins[at.At+1:]...)
	n.ins = n.ins[:at.At]
	n.end, n.to, n.edges = ssa.End{Kind: ssa.Jump}, inner[:1], []Edge{{len(nodes) + len(inner), 0}}
	nodes = slices.Insert(nodes, at.Block+1, append(slices.Clone(inner), next)...)
	f.Blocks = blocks(nodes)
}

// renumber gives the values of a function, in the order in which they are made, numbers from one on; its parameters become arguments.
func renumber(nodes []*node, f ssa.Func, args []int, first int) {
	to := map[int]int{}
	for i, v := range args {
		to[i] = v
	}
	for b, n := range nodes {
		for i := range n.ins {
			to[n.ins[i].Result] = first
			n.ins[i].Result = first
			first++
		}
		if f.Blocks[b].End.Kind == ssa.Try {
			to[n.end.Call.Result] = first
			n.end.Call.Result = first
			first++
		}
	}
	replace(nodes, to)
}

// Same reports whether two instructions are equal but for what they make.
func Same(a, b ssa.Ins) bool {
	return a.Op == b.Op && same.Type(a.Type, b.Type) && slices.Equal(a.Args, b.Args) && a.Text == b.Text && a.Name == b.Name &&
		same.Value(a.Lit, b.Lit) && a.N == b.N && a.Flag == b.Flag
}
