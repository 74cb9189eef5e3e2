// Package sample makes well-formed trees by chance, for the tests of several layers.
package sample

import (
	"strconv"

	"hackamore/api"
	"hackamore/syntax"
)

// Maker makes trees; Pick returns a number from 0 to n - 1, by chance.
type Maker struct {
	Pick func(n int) int
	// Fields are ahead of Methods, and no element of an Array is a Seq, if Parsed: then a text has the tree.
	Parsed bool
}

// Source returns a Pick that depends on a seed alone.
func Source(seed uint64) func(n int) int {
	return func(n int) int {
		seed = seed*6364136223846793005 + 1442695040888963407
		return int(seed >> 33 % uint64(n))
	}
}

func node(kind int, text string, kids ...api.Node) api.Node {
	return api.Node{Kind: kind, Text: text, Kids: kids}
}

func (m Maker) one(l ...string) string { return l[m.Pick(len(l))] }

func (m Maker) word(l ...string) api.Node { return node(syntax.Word, m.one(l...)) }

func (m Maker) capability() api.Node {
	return m.word("", "", "", "iso", "trn", "ref", "val", "box", "tag")
}

func (m Maker) partial() api.Node { return m.word("", "", "?") }

func (m Maker) lower() string { return m.one("a", "b", "x'", "_k", "foo", "_") }

func (m Maker) upper() string { return m.one("A", "B", "C", "U8", "_D") }

func (m Maker) name() string {
	if m.Pick(4) == 0 {
		return m.upper()
	}
	return m.lower()
}

// maybe returns what make makes, or a Nothing.
func (m Maker) maybe(make func(int) api.Node, depth int) api.Node {
	if m.Pick(2) == 0 {
		return node(syntax.Nothing, "")
	}
	return make(depth)
}

func (m Maker) some(make func(int) api.Node, depth, least, most int) []api.Node {
	var l []api.Node
	for range least + m.Pick(most-least+1) {
		l = append(l, make(depth))
	}
	return l
}

// Module returns the tree of a module, whose parts have at most a depth.
func (m Maker) Module(depth int) api.Node {
	n := node(syntax.Module, "", m.some(m.use, depth, 0, 1)...)
	n.Kids = append(n.Kids, m.some(m.entity, depth, 0, 3)...)
	return n
}

func (m Maker) use(depth int) api.Node {
	return node(syntax.Use, m.one("p", "p/q", "a'/b"), m.maybe(m.Expr, depth-1))
}

func (m Maker) entity(depth int) api.Node {
	kind := m.one("class", "actor", "primitive", "trait", "interface", "type")
	n := node(syntax.Entity, m.upper(), node(syntax.Word, kind), m.capability(), m.bounds(depth))
	if kind == "type" {
		n.Kids = append(n.Kids, m.Type(depth))
		return n
	}
	n.Kids = append(n.Kids, m.maybe(m.Type, depth))
	n.Kids = append(n.Kids, m.members(depth)...)
	return n
}

func (m Maker) bounds(depth int) api.Node {
	return node(syntax.Bounds, "", m.some(func(depth int) api.Node {
		return node(syntax.Bound, m.upper(), m.maybe(m.Type, depth))
	}, depth, 0, 1)...)
}

func (m Maker) members(depth int) []api.Node {
	l := m.some(m.field, depth-1, 0, 2)
	l = append(l, m.some(m.method, depth-1, 0, 2)...)
	if !m.Parsed && m.Pick(4) == 0 {
		l = append(l, m.field(depth-1))
	}
	return l
}

func (m Maker) field(depth int) api.Node {
	return node(syntax.Field, m.lower(), m.word("var", "let"), m.Type(depth), m.maybe(m.Expr, depth))
}

func (m Maker) method(depth int) api.Node {
	return node(syntax.Method, m.lower(), m.word("new", "fun", "be"), m.capability(), m.bounds(depth), m.params(depth),
		m.maybe(m.Type, depth), m.partial(), m.maybe(m.Expr, depth))
}

func (m Maker) params(depth int) api.Node {
	return node(syntax.Params, "", m.some(func(depth int) api.Node {
		return node(syntax.Param, m.lower(), m.Type(depth), m.maybe(m.Expr, depth))
	}, depth-1, 0, 2)...)
}

// Type returns the tree of a type.
func (m Maker) Type(depth int) api.Node {
	kind := syntax.NamedType
	if depth > 0 {
		kind = syntax.NamedType + m.Pick(7)
	}
	kids := func(least int) []api.Node { return m.some(m.Type, depth-1, least, 3) }
	mark := m.word("", "", "^", "!")
	switch kind {
	case syntax.NamedType:
		c := m.word("", "", "", "val", "ref", "tag", "#read", "#any")
		n := node(kind, m.one("A", "B", "p.C", "_D"), c, mark)
		if depth > 0 {
			n.Kids = append(n.Kids, m.some(m.Type, depth-1, 0, 1)...)
		}
		return n
	case syntax.ArrowType:
		return node(kind, "", m.Type(depth-1), m.Type(depth-1))
	case syntax.ThisType:
		return node(kind, "")
	case syntax.LambdaType:
		return node(kind, "", append([]api.Node{m.capability(), mark, m.partial(), m.maybe(m.Type, depth-1)}, kids(0)...)...)
	}
	return node(kind, "", kids(2)...)
}

// Expr returns the tree of an expression.
func (m Maker) Expr(depth int) api.Node {
	if depth <= 0 {
		return m.leaf()
	}
	kind := syntax.IntLit + m.Pick(syntax.Lambda-syntax.IntLit+1)
	if kind == syntax.Named || kind == syntax.Case {
		kind = syntax.Call
	}
	return m.Of(kind, depth-1)
}

func (m Maker) leaf() api.Node {
	return m.Of([...]int{syntax.IntLit, syntax.Name, syntax.Name, syntax.This, syntax.StringLit}[m.Pick(5)], 0)
}

// Of returns an expression of a kind, whose parts have at most a depth.
func (m Maker) Of(kind, depth int) api.Node {
	e := func() api.Node { return m.Expr(depth) }
	t := func() api.Node { return m.Type(min(depth, 2)) }
	switch kind {
	case syntax.IntLit:
		return node(kind, strconv.Itoa(m.Pick(300)))
	case syntax.FloatLit:
		return node(kind, m.one("1.5", "2e3", "0.1e-7"))
	case syntax.StringLit:
		return node(kind, m.one("", "s", "a\n\"", "é"))
	case syntax.BoolLit:
		return node(kind, m.one("true", "false"))
	case syntax.Name:
		return node(kind, m.name())
	case syntax.This, syntax.Error, syntax.Break, syntax.Continue:
		return node(kind, "")
	case syntax.Seq:
		return node(kind, "", m.some(m.stat, depth, 2, 3)...)
	case syntax.Decl:
		return node(kind, m.lower(), m.word("var", "let"), t())
	case syntax.Assign:
		return node(kind, "", m.left(depth), e())
	case syntax.Dot, syntax.Tilde, syntax.Chain:
		return node(kind, m.lower(), e())
	case syntax.Call:
		return m.call(depth)
	case syntax.Qualify:
		return node(kind, "", append([]api.Node{e()}, m.some(m.Type, min(depth, 2), 1, 2)...)...)
	case syntax.Tuple:
		return node(kind, "", m.some(m.Expr, depth, 2, 3)...)
	case syntax.Array:
		make := m.Expr
		if m.Parsed {
			make = m.stat
		}
		return node(kind, "", append([]api.Node{t()}, m.some(make, depth, 0, 2)...)...)
	}
	return m.more(kind, depth)
}

// more returns expressions of the kinds that Of leaves to it.
func (m Maker) more(kind, depth int) api.Node {
	e := func() api.Node { return m.Expr(depth) }
	t := func() api.Node { return m.Type(min(depth, 2)) }
	others := func() api.Node { return m.maybe(m.Expr, depth) }
	switch kind {
	case syntax.Unary:
		return node(kind, m.one("not", "-"), e())
	case syntax.Binary:
		return node(kind, m.one("+", "+", "-", "-", "and", "is", "isnt", "==", "<<", "/?", "xor"), e(), e())
	case syntax.As:
		return node(kind, "", e(), t())
	case syntax.Consume:
		return node(kind, "", e())
	case syntax.Recover:
		return node(kind, "", m.capability(), e())
	case syntax.If, syntax.Ifdef, syntax.While:
		return node(kind, "", e(), e(), others())
	case syntax.Repeat:
		return node(kind, "", e(), e())
	case syntax.For:
		return node(kind, m.lower(), t(), e(), e(), others())
	case syntax.With:
		return node(kind, m.lower(), t(), e(), e())
	case syntax.Match:
		return node(kind, "", append([]api.Node{e(), others()}, m.some(m.matchCase, depth, 1, 2)...)...)
	case syntax.Try:
		return node(kind, "", e(), others(), others())
	case syntax.Return:
		return node(kind, "", others())
	case syntax.Object:
		return node(kind, "", append([]api.Node{m.capability(), m.maybe(m.Type, depth)}, m.members(depth)...)...)
	}
	kids := []api.Node{m.capability(), m.params(depth), m.maybe(m.Type, depth), m.partial(), e()}
	return node(syntax.Lambda, "", append(kids, m.some(func(depth int) api.Node {
		return node(syntax.Capture, m.lower(), m.Type(depth), m.Expr(depth))
	}, depth, 0, 1)...)...)
}

func (m Maker) stat(depth int) api.Node {
	for {
		if n := m.Expr(depth); n.Kind != syntax.Seq {
			return n
		}
	}
}

func (m Maker) left(depth int) api.Node {
	switch m.Pick(6) {
	case 0, 1:
		return m.Of(syntax.Name, 0)
	case 2:
		return m.Of(syntax.Decl, depth)
	case 3:
		return m.Of(syntax.Dot, depth)
	case 4:
		return m.call(depth)
	}
	return node(syntax.Tuple, "", m.some(m.part, depth-1, 2, 3)...)
}

// part returns a part of a Tuple on the left of an assignment, or in a pattern: mostly a Decl.
func (m Maker) part(depth int) api.Node {
	if m.Pick(3) > 0 || depth <= 0 {
		return m.Of(syntax.Decl, 0)
	}
	return m.left(depth)
}

func (m Maker) call(depth int) api.Node {
	n := node(syntax.Call, "", m.Expr(depth), m.partial())
	n.Kids = append(n.Kids, m.some(m.Expr, depth, 0, 2)...)
	if m.Pick(4) == 0 {
		n.Kids = append(n.Kids, node(syntax.Named, m.lower(), m.Expr(depth)))
	}
	return n
}

func (m Maker) matchCase(depth int) api.Node {
	pattern := m.Expr(depth)
	switch m.Pick(3) {
	case 0:
		pattern = m.Of(syntax.Decl, depth)
	case 1:
		pattern = node(syntax.Tuple, "", m.some(m.part, depth-1, 2, 3)...)
	}
	return node(syntax.Case, "", pattern, m.maybe(m.Expr, depth), m.Expr(depth))
}

// Wild returns a tree that need not be well-formed.
func (m Maker) Wild(depth int) api.Node {
	n := node(m.Pick(syntax.Last+4)-2, m.one("", "x", "A", "1", "class", "new", "\xff", "not", "p/q"))
	if m.Pick(8) == 0 {
		return m.Expr(depth)
	}
	if depth > 0 {
		n.Kids = m.some(m.Wild, depth-1, 0, 5)
	}
	return n
}

// Broken returns the tree of a module in which one part was replaced by another one.
func (m Maker) Broken(depth int) api.Node {
	n := m.Module(depth)
	var path []int
	for at := n; len(at.Kids) > 0 && m.Pick(6) > 0; {
		i := m.Pick(len(at.Kids))
		path = append(path, i)
		at = at.Kids[i]
	}
	part := m.Wild(1)
	if m.Pick(2) == 0 {
		part = m.Expr(2)
	}
	n, _ = syntax.Put(n, path, part)
	return n
}
