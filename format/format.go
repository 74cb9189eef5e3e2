// Package format is layer 4: canonical texts of syntax trees. See shared/doc/04-format.md.
package format

import (
	"slices"
	"strings"

	"hackamore/api"
	"hackamore/parser"
	"hackamore/syntax"
)

// Text returns the canonical text of a tree.
func Text(n api.Node) (string, api.Errno) {
	if e := syntax.Check(n); e != api.OK {
		return "", e
	}
	if n.Kind != syntax.Module && !syntax.IsType(n) && !syntax.IsExpr(n) {
		return "", api.ErrArg
	}
	if !parses(n) {
		return "", api.ErrForm
	}
	s := write(n)
	if len(s) > api.MaxSource {
		return "", api.ErrLarge
	}
	return s, api.OK
}

// Module returns the canonical text of a module's text.
func Module(text string) (string, int, api.Errno) {
	n, at, e := parser.Parse(text)
	if e != api.OK {
		return "", at, e
	}
	s, e := Text(n)
	return s, 0, e
}

// Parses reports whether a tree has a text.
func Parses(n api.Node) bool {
	_, e := Text(n)
	return e == api.OK || e == api.ErrLarge
}

// parses reports whether the grammar has a well-formed tree: no field stands behind a method, no element of an Array is a Seq.
func parses(n api.Node) bool {
	method := false
	for _, k := range n.Kids {
		method = method || k.Kind == syntax.Method
		if k.Kind == syntax.Field && method || n.Kind == syntax.Array && k.Kind == syntax.Seq || !parses(k) {
			return false
		}
	}
	return true
}

func write(n api.Node) string {
	rules := rules()
	w := writer{rules: rules[:]}
	switch {
	case n.Kind == syntax.Module:
		return w.module(n)
	case syntax.IsType(n):
		return w.rule(n)
	}
	return w.body(n)
}

// writer writes parts of trees. The level is that of the line on which a part begins; further lines of it are indented by it.
type writer struct {
	level int
	rules []func(writer, api.Node) string
}

// lines joins lines of the writer's level.
func (w writer) lines(l ...string) string {
	return strings.Join(l, "\n"+strings.Repeat("  ", w.level))
}

// inner writes what stands with one more level, on lines of its own.
func (w writer) inner(write func(writer, api.Node) string, n api.Node) string {
	w.level++
	return "  " + write(w, n)
}

// rule writes a node by the rule of its kind, without brackets.
func (w writer) rule(n api.Node) string { return w.rules[n.Kind](w, n) }

// each writes nodes with a text between them.
func (w writer) each(l []api.Node, between string, write func(writer, api.Node) string) string {
	var parts []string
	for _, n := range l {
		parts = append(parts, write(w, n))
	}
	return strings.Join(parts, between)
}

// behind writes a node behind a text, if it is no Nothing.
func (w writer) behind(ahead string, n api.Node, write func(writer, api.Node) string) string {
	if n.Kind == syntax.Nothing {
		return ""
	}
	return ahead + write(w, n)
}

// spaced puts a space ahead of a text that is not empty.
func spaced(s string) string {
	if s == "" {
		return ""
	}
	return " " + s
}

func (w writer) module(n api.Node) string {
	var b strings.Builder
	for _, k := range n.Kids {
		b.WriteString(w.rule(k))
		b.WriteByte('\n')
	}
	return b.String()
}

func (w writer) use(n api.Node) string {
	return "use \"" + n.Text + "\"" + w.behind(" if ", n.Kids[0], writer.infix)
}

func (w writer) entity(n api.Node) string {
	k := n.Kids
	head := k[0].Text + spaced(k[1].Text) + " " + n.Text + w.bounds(k[2]) + w.behind(" is ", k[3], writer.rule)
	return w.lines(slices.Concat([]string{head}, w.members(k[4:]))...)
}

// members writes fields and methods with one more level.
func (w writer) members(l []api.Node) []string {
	var parts []string
	for _, m := range l {
		parts = append(parts, w.inner(writer.rule, m))
	}
	return parts
}

func (w writer) bounds(n api.Node) string {
	if len(n.Kids) == 0 {
		return ""
	}
	return "[" + w.each(n.Kids, ", ", writer.rule) + "]"
}

func (w writer) bound(n api.Node) string { return n.Text + w.behind(": ", n.Kids[0], writer.rule) }

func (w writer) field(n api.Node) string {
	k := n.Kids
	return k[0].Text + " " + n.Text + ": " + w.rule(k[1]) + w.behind(" = ", k[2], writer.infix)
}

func (w writer) method(n api.Node) string {
	k := n.Kids
	head := k[0].Text + spaced(k[1].Text) + " " + n.Text + w.bounds(k[2]) + w.rule(k[3]) + w.behind(": ", k[4], writer.rule) + spaced(k[5].Text)
	if k[6].Kind == syntax.Nothing {
		return head
	}
	return w.lines(head+" =>", w.inner(writer.body, k[6]))
}

func (w writer) params(n api.Node) string { return "(" + w.each(n.Kids, ", ", writer.rule) + ")" }

func (w writer) param(n api.Node) string {
	return n.Text + ": " + w.rule(n.Kids[0]) + w.behind(" = ", n.Kids[1], writer.infix)
}

func (w writer) named(n api.Node) string { return n.Text + " = " + w.infix(n.Kids[0]) }

func (w writer) namedType(n api.Node) string {
	k := n.Kids
	args := ""
	if len(k) > 2 {
		args = "[" + w.each(k[2:], ", ", writer.rule) + "]"
	}
	return n.Text + args + spaced(k[0].Text) + k[1].Text
}

func (w writer) unionType(n api.Node) string { return "(" + w.each(n.Kids, " | ", writer.rule) + ")" }

func (w writer) bothType(n api.Node) string { return "(" + w.each(n.Kids, " & ", writer.rule) + ")" }

func (w writer) tupleType(n api.Node) string { return "(" + w.each(n.Kids, ", ", writer.rule) + ")" }

func (w writer) arrowType(n api.Node) string {
	left := w.rule(n.Kids[0])
	if n.Kids[0].Kind == syntax.ArrowType {
		left = "(" + left + ")"
	}
	return left + "->" + w.rule(n.Kids[1])
}

func (w writer) lambdaType(n api.Node) string {
	k := n.Kids
	inside := "(" + w.each(k[4:], ", ", writer.rule) + ")" + w.behind(": ", k[3], writer.rule) + spaced(k[2].Text)
	return "{" + inside + "}" + spaced(k[0].Text) + k[1].Text
}
