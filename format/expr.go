package format

import (
	"slices"

	"hackamore/api"
	"hackamore/syntax"
	"hackamore/token"
)

// Contexts: what the grammar has at a place. What may stand in one of them may stand in those ahead of it.
const (
	inBody   = iota // a seq whose stats stand on lines
	inSeq           // a seq on one line
	inAssign        // an assign
	inInfix         // an infix
	inTerm          // a term
	inAtom          // an atom
)

// last returns the last context in which an expression stands without brackets.
func last(n api.Node) int {
	switch n.Kind {
	case syntax.Seq:
		return inBody
	case syntax.Return, syntax.Break, syntax.Continue, syntax.Error:
		return inSeq
	case syntax.Assign:
		return inAssign
	case syntax.Binary, syntax.As:
		return inInfix
	case syntax.Unary, syntax.Consume:
		return inTerm
	}
	return inAtom
}

// in writes an expression in a context.
func (w writer) in(context int, n api.Node) string {
	s := w.rule(n)
	if last(n) < context {
		return "(" + s + ")"
	}
	return s
}

func (w writer) stat(n api.Node) string   { return w.in(inSeq, n) }
func (w writer) assign(n api.Node) string { return w.in(inAssign, n) }
func (w writer) infix(n api.Node) string  { return w.in(inInfix, n) }
func (w writer) term(n api.Node) string   { return w.in(inTerm, n) }
func (w writer) atom(n api.Node) string   { return w.in(inAtom, n) }

// receiver writes an atom that its type must not take for more of it.
func (w writer) receiver(n api.Node) string {
	if n.Kind == syntax.Decl {
		return "(" + w.rule(n) + ")"
	}
	return w.atom(n)
}

// body writes the stats of a body on lines of their own.
func (w writer) body(n api.Node) string {
	if n.Kind != syntax.Seq {
		return w.stat(n)
	}
	var l []string
	for _, k := range n.Kids {
		l = append(l, w.stat(k))
	}
	return w.lines(l...)
}

// block is a body with one more level.
func (w writer) block(n api.Node) string { return w.inner(writer.body, n) }

// optional returns a line and the block behind it, or nothing for a Nothing.
func (w writer) optional(line string, n api.Node) []string {
	if n.Kind == syntax.Nothing {
		return nil
	}
	return []string{line, w.block(n)}
}

// rules are the rules by kinds.
func rules() [syntax.Last + 1]func(writer, api.Node) string {
	return [...]func(writer, api.Node) string{
		syntax.Use: writer.use, syntax.Entity: writer.entity, syntax.Bound: writer.bound, syntax.Field: writer.field,
		syntax.Method: writer.method, syntax.Params: writer.params, syntax.Param: writer.param, syntax.Named: writer.named,
		syntax.NamedType: writer.namedType, syntax.UnionType: writer.unionType, syntax.BothType: writer.bothType,
		syntax.TupleType: writer.tupleType, syntax.ArrowType: writer.arrowType, syntax.ThisType: fixed("this"),
		syntax.LambdaType: writer.lambdaType, syntax.IntLit: writer.literal, syntax.FloatLit: writer.literal,
		syntax.StringLit: writer.stringLit, syntax.BoolLit: writer.literal, syntax.Name: writer.literal, syntax.This: fixed("this"),
		syntax.Seq: writer.seq, syntax.Decl: writer.decl, syntax.Assign: writer.assignment, syntax.Dot: writer.dot,
		syntax.Tilde: writer.tilde, syntax.Chain: writer.chain, syntax.Call: writer.call, syntax.Qualify: writer.qualify,
		syntax.Tuple: writer.tuple, syntax.Array: writer.array, syntax.Unary: writer.unary, syntax.Binary: writer.binary,
		syntax.As: writer.as, syntax.Consume: writer.consume, syntax.Recover: writer.recovered, syntax.If: writer.branches,
		syntax.Ifdef: writer.ifdef, syntax.While: writer.while, syntax.Repeat: writer.repeat, syntax.For: writer.loop,
		syntax.With: writer.with, syntax.Match: writer.match, syntax.Case: writer.oneCase, syntax.Try: writer.try,
		syntax.Error: fixed("error"), syntax.Return: writer.result, syntax.Break: fixed("break"),
		syntax.Continue: fixed("continue"), syntax.Object: writer.object, syntax.Lambda: writer.lambda, syntax.Capture: writer.capture,
	}
}

func fixed(s string) func(writer, api.Node) string {
	return func(writer, api.Node) string { return s }
}

func (w writer) literal(n api.Node) string { return n.Text }

func (w writer) stringLit(n api.Node) string {
	s, _ := token.Quote(n.Text)
	return s
}

// seq writes what stands between the brackets of a Seq.
func (w writer) seq(n api.Node) string { return w.each(n.Kids, "; ", writer.stat) }

func (w writer) decl(n api.Node) string {
	return n.Kids[0].Text + " " + n.Text + ": " + w.rule(n.Kids[1])
}

func (w writer) assignment(n api.Node) string {
	return w.infix(n.Kids[0]) + " = " + w.assign(n.Kids[1])
}

func (w writer) dot(n api.Node) string { return w.receiver(n.Kids[0]) + "." + n.Text }

func (w writer) tilde(n api.Node) string { return w.atom(n.Kids[0]) + "~" + n.Text }

func (w writer) chain(n api.Node) string { return w.atom(n.Kids[0]) + ".>" + n.Text }

func (w writer) call(n api.Node) string {
	args := n.Kids[2:]
	first := len(args)
	for first > 0 && args[first-1].Kind == syntax.Named {
		first--
	}
	text := w.each(args[:first], ", ", writer.assign)
	if first < len(args) {
		ahead := "where "
		if first > 0 {
			ahead = " where "
		}
		text += ahead + w.each(args[first:], ", ", writer.rule)
	}
	return w.atom(n.Kids[0]) + "(" + text + ")" + n.Kids[1].Text
}

func (w writer) qualify(n api.Node) string {
	return w.receiver(n.Kids[0]) + "[" + w.each(n.Kids[1:], ", ", writer.rule) + "]"
}

func (w writer) tuple(n api.Node) string { return "(" + w.each(n.Kids, ", ", writer.stat) + ")" }

func (w writer) array(n api.Node) string {
	elements := w.each(n.Kids[1:], "; ", writer.stat)
	return "[as " + w.rule(n.Kids[0]) + ":" + spaced(elements) + "]"
}

func (w writer) unary(n api.Node) string {
	if n.Text == "not" {
		return "not " + w.term(n.Kids[0])
	}
	return "-" + w.term(n.Kids[0])
}

func (w writer) consume(n api.Node) string { return "consume " + w.term(n.Kids[0]) }

func (w writer) binary(n api.Node) string {
	left := n.Kids[0]
	context := inTerm
	if left.Kind == syntax.Binary && left.Text == n.Text {
		context = inInfix
	}
	return w.in(context, left) + " " + n.Text + " " + w.term(n.Kids[1])
}

func (w writer) as(n api.Node) string { return w.term(n.Kids[0]) + " as " + w.rule(n.Kids[1]) }

func (w writer) result(n api.Node) string { return "return" + w.behind(" ", n.Kids[0], writer.infix) }

func (w writer) recovered(n api.Node) string {
	return w.lines("recover"+spaced(n.Kids[0].Text), w.block(n.Kids[1]), "end")
}

func (w writer) branches(n api.Node) string {
	l := []string{"if " + w.stat(n.Kids[0]) + " then", w.block(n.Kids[1])}
	for n.Kids[2].Kind == syntax.If {
		n = n.Kids[2]
		l = append(l, "elseif "+w.stat(n.Kids[0])+" then", w.block(n.Kids[1]))
	}
	l = append(l, w.optional("else", n.Kids[2])...)
	return w.lines(append(l, "end")...)
}

func (w writer) ifdef(n api.Node) string {
	l := []string{"ifdef " + w.infix(n.Kids[0]) + " then", w.block(n.Kids[1])}
	l = append(l, w.optional("else", n.Kids[2])...)
	return w.lines(append(l, "end")...)
}

func (w writer) while(n api.Node) string {
	l := []string{"while " + w.stat(n.Kids[0]) + " do", w.block(n.Kids[1])}
	l = append(l, w.optional("else", n.Kids[2])...)
	return w.lines(append(l, "end")...)
}

func (w writer) repeat(n api.Node) string {
	return w.lines("repeat", w.block(n.Kids[0]), "until "+w.stat(n.Kids[1]), "end")
}

func (w writer) loop(n api.Node) string {
	k := n.Kids
	l := []string{"for " + n.Text + ": " + w.rule(k[0]) + " in " + w.stat(k[1]) + " do", w.block(k[2])}
	l = append(l, w.optional("else", k[3])...)
	return w.lines(append(l, "end")...)
}

func (w writer) with(n api.Node) string {
	k := n.Kids
	return w.lines("with "+n.Text+": "+w.rule(k[0])+" = "+w.infix(k[1])+" do", w.block(k[2]), "end")
}

func (w writer) match(n api.Node) string {
	l := []string{"match " + w.stat(n.Kids[0])}
	for _, k := range n.Kids[2:] {
		l = append(l, w.rule(k))
	}
	l = append(l, w.optional("else", n.Kids[1])...)
	return w.lines(append(l, "end")...)
}

func (w writer) oneCase(n api.Node) string {
	head := "| " + w.infix(n.Kids[0]) + w.behind(" if ", n.Kids[1], writer.infix) + " =>"
	return w.lines(head, w.block(n.Kids[2]))
}

func (w writer) try(n api.Node) string {
	l := []string{"try", w.block(n.Kids[0])}
	l = append(l, w.optional("else", n.Kids[1])...)
	l = append(l, w.optional("then", n.Kids[2])...)
	return w.lines(append(l, "end")...)
}

func (w writer) object(n api.Node) string {
	l := []string{"object" + spaced(n.Kids[0].Text) + w.behind(" is ", n.Kids[1], writer.rule)}
	l = append(l, w.members(n.Kids[2:])...)
	return w.lines(append(l, "end")...)
}

// oneLine reports whether a node stands on one line.
func oneLine(n api.Node) bool {
	switch n.Kind {
	case syntax.Recover, syntax.If, syntax.Ifdef, syntax.While, syntax.Repeat, syntax.For, syntax.With, syntax.Match, syntax.Try, syntax.Object:
		return false
	case syntax.Lambda:
		if n.Kids[4].Kind == syntax.Seq {
			return false
		}
	}
	return !slices.ContainsFunc(n.Kids, func(k api.Node) bool { return !oneLine(k) })
}

func (w writer) lambda(n api.Node) string {
	k := n.Kids
	captures := ""
	if len(k) > 5 {
		captures = "(" + w.each(k[5:], ", ", writer.rule) + ")"
	}
	head := "{" + w.rule(k[1]) + captures + w.behind(": ", k[2], writer.rule) + spaced(k[3].Text) + " =>"
	end := "}" + spaced(k[0].Text)
	if k[4].Kind != syntax.Seq && oneLine(k[4]) {
		return head + " " + w.stat(k[4]) + " " + end
	}
	return w.lines(head, w.block(k[4]), end)
}

func (w writer) capture(n api.Node) string {
	return n.Text + ": " + w.rule(n.Kids[0]) + " = " + w.infix(n.Kids[1])
}
