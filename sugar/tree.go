package sugar

import (
	"strconv"

	"hackamore/api"
	"hackamore/syntax"
)

// tree is a part of the module, or one that was made of parts of it; its path is that of the part, or of what it was made of.
type tree struct {
	kind int
	text string
	kids []*tree
	path []int
	node api.Node
}

// grow returns the tree of a node with a path.
func grow(n api.Node, path []int) *tree {
	t := &tree{kind: n.Kind, text: n.Text, path: path, node: n}
	for i, k := range n.Kids {
		below := append(append([]int{}, path...), i)
		t.kids = append(t.kids, grow(k, below))
	}
	return t
}

// make returns a tree that is made of this one.
func (t *tree) make(kind int, text string, kids ...*tree) *tree {
	return &tree{kind: kind, text: text, kids: kids, path: t.path}
}

func (t *tree) fail(code api.Errno) { panic(failure{t.path, code}) }

func (t *tree) isNothing() bool { return t.kind == syntax.Nothing }

// freshNames returns a function that returns the next name with a prefix that is not used.
func freshNames(prefix string, used map[string]bool) func() string {
	n := 0
	return func() string {
		for {
			n++
			if name := prefix + strconv.Itoa(n); !used[name] {
				return name
			}
		}
	}
}

// collect puts all texts of a tree into a set.
func collect(n api.Node, set map[string]bool) {
	set[n.Text] = true
	for _, k := range n.Kids {
		collect(k, set)
	}
}

func node(kind int, text string, kids ...api.Node) api.Node {
	return api.Node{Kind: kind, Text: text, Kids: kids}
}

func word(text string) api.Node { return node(syntax.Word, text) }

func nothing() api.Node { return node(syntax.Nothing, "") }

func name(text string) api.Node { return node(syntax.Name, text) }

func this() api.Node { return node(syntax.This, "") }

func boolean(text string) api.Node { return node(syntax.BoolLit, text) }

func dot(e api.Node, text string) api.Node { return node(syntax.Dot, text, e) }

// call returns the call of a method of e.
func call(e api.Node, method string, args ...api.Node) api.Node {
	return invoke(dot(e, method), "", args)
}

// invoke returns the call of a callee, with the Word of its partial mark.
func invoke(callee api.Node, partial string, args []api.Node) api.Node {
	return node(syntax.Call, "", append([]api.Node{callee, word(partial)}, args...)...)
}

func assign(left, right api.Node) api.Node { return node(syntax.Assign, "", left, right) }

// let returns the declaration of a local with a value.
func let(text string, typ, value api.Node) api.Node {
	return assign(node(syntax.Decl, text, word("let"), typ), value)
}

// namedType returns a type with a capability and type arguments.
func namedType(text, capability string, args ...api.Node) api.Node {
	return node(syntax.NamedType, text, append([]api.Node{word(capability), word("")}, args...)...)
}

// seq returns a Seq, in which Seqs among the parts are dissolved, or its part if there is only one.
func seq(parts ...api.Node) api.Node {
	var l []api.Node
	for _, p := range parts {
		if p.Kind == syntax.Seq {
			l = append(l, p.Kids...)
		} else {
			l = append(l, p)
		}
	}
	if len(l) == 1 {
		return l[0]
	}
	return node(syntax.Seq, "", l...)
}
