package parser

import (
	"slices"

	"hackamore/api"
	"hackamore/syntax"
	"hackamore/token"
)

// seq reads stats; of several it makes a Seq, in which Seqs are dissolved.
func (r *reader) seq() api.Node {
	var parts []api.Node
	for {
		s := r.stat()
		parts = append(parts, s)
		if r.done() || r.stops[r.word()] {
			break
		}
		if !r.take(";") && r.onLine() {
			r.fail(ErrToken)
		}
	}
	if len(parts) == 1 {
		return parts[0]
	}
	return node(syntax.Seq, "", dissolve(parts)...)
}

// dissolve puts the parts of Seqs in their places.
func dissolve(parts []api.Node) []api.Node {
	var l []api.Node
	for _, p := range parts {
		l = append(l, stats(p)...)
	}
	return l
}

// stats returns the parts of a Seq, or what is none.
func stats(n api.Node) []api.Node {
	if n.Kind == syntax.Seq {
		return n.Kids
	}
	return []api.Node{n}
}

func (r *reader) stat() api.Node {
	switch {
	case r.take("return"):
		if r.onLine() && r.beginsTerm() {
			return node(syntax.Return, "", r.infix())
		}
		return node(syntax.Return, "", nothing())
	case r.take("break"):
		return node(syntax.Break, "")
	case r.take("continue"):
		return node(syntax.Continue, "")
	case r.take("error"):
		return node(syntax.Error, "")
	}
	return r.assign()
}

func (r *reader) beginsTerm() bool {
	switch r.kind() {
	case token.Ident, token.Int, token.Float, token.String:
		return true
	}
	return r.terms[r.word()]
}

func (r *reader) assign() api.Node {
	left := r.infix()
	if !r.is("=") {
		return left
	}
	if !assignable(left) {
		r.fail(api.ErrForm)
	}
	r.next++
	return node(syntax.Assign, "", left, r.assign())
}

// assignable reports whether layer 2 permits an expression on the left of an assignment.
func assignable(n api.Node) bool {
	switch n.Kind {
	case syntax.Name, syntax.Decl, syntax.Dot, syntax.Call:
		return true
	case syntax.Tuple:
		return !slices.ContainsFunc(n.Kids, func(k api.Node) bool { return !assignable(k) })
	}
	return false
}

func (r *reader) infix() api.Node {
	n := r.term()
	if r.take("as") {
		n = node(syntax.As, "", n, r.typ())
		if r.is("as") || r.operator() != "" {
			r.fail(ErrMix)
		}
		return n
	}
	first := r.operator()
	for op := first; op != ""; op = r.operator() {
		if op != first {
			r.fail(ErrMix)
		}
		r.next++
		n = node(syntax.Binary, op, n, r.term())
	}
	if first != "" && r.is("as") {
		r.fail(ErrMix)
	}
	return n
}

// operator returns the next token's text, if it is an operator that continues an expression.
func (r *reader) operator() string {
	switch w := r.word(); w {
	case "-":
		if r.onLine() {
			return w
		}
	case "and", "or", "xor", "is", "isnt", "+", "*", "/", "%", "+?", "-?", "*?", "/?", "%?",
		"<<", ">>", "==", "!=", "<", "<=", ">", ">=":
		return w
	}
	return ""
}

func (r *reader) term() api.Node {
	switch op := r.oneOf("not", "-", "consume"); op {
	case "":
		return r.postfix()
	case "consume":
		return node(syntax.Consume, "", r.term())
	default:
		return node(syntax.Unary, op, r.term())
	}
}

func (r *reader) postfix() api.Node {
	n := r.atom()
	for {
		switch {
		case r.take("."):
			n = node(syntax.Dot, r.name(), n)
		case r.take("~"):
			n = node(syntax.Tilde, r.name(), n)
		case r.take(".>"):
			n = node(syntax.Chain, r.name(), n)
		case r.onLine() && r.is("["):
			n = node(syntax.Qualify, "", append([]api.Node{n}, r.typeArgs()...)...)
		case r.onLine() && r.take("("):
			n = r.call(n)
		default:
			return n
		}
	}
}

// call reads the arguments of a call behind its bracket.
func (r *reader) call(callee api.Node) api.Node {
	kids := []api.Node{callee, word("")}
	if !r.is(")") && !r.is("where") {
		kids = append(kids, list(r, ",", (*reader).assign)...)
	}
	if r.take("where") {
		kids = append(kids, list(r, ",", (*reader).named)...)
	}
	r.want(")")
	if r.onLine() {
		kids[1] = r.partial()
	}
	return node(syntax.Call, "", kids...)
}

func (r *reader) named() api.Node {
	name := r.name()
	return node(syntax.Named, name, r.behind("=", (*reader).infix))
}

func (r *reader) atom() api.Node {
	switch r.kind() {
	case token.Int:
		return node(syntax.IntLit, r.text())
	case token.Float:
		return node(syntax.FloatLit, r.text())
	case token.String:
		return node(syntax.StringLit, r.text())
	case token.Ident:
		return node(syntax.Name, r.name())
	}
	switch w := r.word(); w {
	case "true", "false":
		return node(syntax.BoolLit, r.text())
	case "var", "let":
		kept := word(r.text())
		name := r.name()
		return node(syntax.Decl, name, kept, r.behind(":", (*reader).typ))
	case "this":
		r.next++
		return node(syntax.This, "")
	case "(":
		return r.bracket()
	case "[":
		return r.array()
	case "{":
		return r.lambda()
	}
	return r.block()
}

func (r *reader) bracket() api.Node {
	r.want("(")
	l := list(r, ",", (*reader).seq)
	r.want(")")
	if len(l) == 1 {
		return l[0]
	}
	return node(syntax.Tuple, "", l...)
}

func (r *reader) array() api.Node {
	r.want("[")
	kids := []api.Node{r.behind("as", (*reader).typ)}
	r.want(":")
	if !r.is("]") {
		kids = append(kids, stats(r.seq())...)
	}
	r.want("]")
	return node(syntax.Array, "", kids...)
}

func (r *reader) lambda() api.Node {
	r.want("{")
	params := r.params()
	var captures []api.Node
	if r.take("(") {
		captures = list(r, ",", (*reader).capture)
		r.want(")")
	}
	result := r.maybe(":", (*reader).typ)
	partial := r.partial()
	body := r.behind("=>", (*reader).seq)
	r.want("}")
	kids := []api.Node{r.capability(), params, result, partial, body}
	return node(syntax.Lambda, "", append(kids, captures...)...)
}

func (r *reader) capture() api.Node {
	name := r.name()
	t := r.behind(":", (*reader).typ)
	return node(syntax.Capture, name, t, r.behind("=", (*reader).infix))
}

// block reads an atom that ends with the word end.
func (r *reader) block() api.Node {
	blocks := map[string]func(*reader) api.Node{
		"if": (*reader).branches, "ifdef": (*reader).ifdef, "while": (*reader).while, "repeat": (*reader).repeat,
		"for": (*reader).loop, "with": (*reader).with, "match": (*reader).match, "try": (*reader).try,
		"recover": (*reader).recovered, "object": (*reader).object,
	}
	read := blocks[r.word()]
	if read == nil {
		r.fail(ErrToken)
	}
	r.next++
	n := read(r)
	r.want("end")
	return n
}

// branches reads an if behind its first word, or an elseif.
func (r *reader) branches() api.Node {
	condition := r.seq()
	then := r.behind("then", (*reader).seq)
	if r.take("elseif") {
		return node(syntax.If, "", condition, then, r.branches())
	}
	return node(syntax.If, "", condition, then, r.maybe("else", (*reader).seq))
}

func (r *reader) ifdef() api.Node {
	condition := r.infix()
	then := r.behind("then", (*reader).seq)
	return node(syntax.Ifdef, "", condition, then, r.maybe("else", (*reader).seq))
}

func (r *reader) while() api.Node {
	condition := r.seq()
	body := r.behind("do", (*reader).seq)
	return node(syntax.While, "", condition, body, r.maybe("else", (*reader).seq))
}

func (r *reader) repeat() api.Node {
	body := r.seq()
	return node(syntax.Repeat, "", body, r.behind("until", (*reader).seq))
}

func (r *reader) loop() api.Node {
	name := r.name()
	t := r.behind(":", (*reader).typ)
	iterator := r.behind("in", (*reader).seq)
	body := r.behind("do", (*reader).seq)
	return node(syntax.For, name, t, iterator, body, r.maybe("else", (*reader).seq))
}

func (r *reader) with() api.Node {
	name := r.name()
	t := r.behind(":", (*reader).typ)
	value := r.behind("=", (*reader).infix)
	return node(syntax.With, name, t, value, r.behind("do", (*reader).seq))
}

func (r *reader) match() api.Node {
	operand := r.seq()
	cases := []api.Node{r.oneCase()}
	for r.is("|") {
		c := r.oneCase()
		cases = append(cases, c)
	}
	kids := []api.Node{operand, r.maybe("else", (*reader).seq)}
	return node(syntax.Match, "", append(kids, cases...)...)
}

func (r *reader) oneCase() api.Node {
	pattern := r.behind("|", (*reader).infix)
	guard := r.maybe("if", (*reader).infix)
	return node(syntax.Case, "", pattern, guard, r.behind("=>", (*reader).seq))
}

func (r *reader) try() api.Node {
	body := r.seq()
	other := r.maybe("else", (*reader).seq)
	return node(syntax.Try, "", body, other, r.maybe("then", (*reader).seq))
}

func (r *reader) recovered() api.Node {
	c := r.capability()
	return node(syntax.Recover, "", c, r.seq())
}

func (r *reader) object() api.Node {
	c := r.capability()
	kids := []api.Node{c, r.maybe("is", (*reader).typ)}
	return node(syntax.Object, "", append(kids, r.members()...)...)
}
