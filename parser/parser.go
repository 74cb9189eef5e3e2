// Package parser is layer 3: the grammar. See shared/doc/03-parser.md.
package parser

import (
	"hackamore/api"
	"hackamore/syntax"
	"hackamore/token"
)

// Errors of this layer.
const (
	ErrToken api.Errno = 50 // a token that cannot stand there
	ErrMix   api.Errno = 51 // different operators without brackets
)

// Parse returns the tree of a module, or the place of an error.
func Parse(text string) (api.Node, int, api.Errno) { return parse(text, (*reader).module) }

// Expr returns the tree of an expression.
func Expr(text string) (api.Node, int, api.Errno) { return parse(text, (*reader).seq) }

// Type returns the tree of a type.
func Type(text string) (api.Node, int, api.Errno) { return parse(text, (*reader).inner) }

// failure is what a reader panics with.
type failure struct {
	at   int
	code api.Errno
}

// reader reads tokens; end is the length of their text.
type reader struct {
	tokens []token.Token
	next   int
	end    int
	stops  map[string]bool
	terms  map[string]bool
}

// parse returns what read makes of a whole text.
func parse(text string, read func(*reader) api.Node) (n api.Node, at int, e api.Errno) {
	tokens, at, e := token.Scan(text)
	if e != api.OK {
		return api.Node{}, at, e
	}
	defer func() {
		if x := recover(); x != nil {
			f, ok := x.(failure)
			if !ok {
				f.code = api.ErrForm
			}
			n, at, e = api.Node{}, f.at, f.code
		}
	}()
	r := &reader{tokens: tokens, end: len(text), stops: stops(), terms: terms()}
	n = read(r)
	if !r.done() {
		r.fail(ErrToken)
	}
	if e := syntax.Check(n); e != api.OK {
		return api.Node{}, 0, e
	}
	return n, 0, api.OK
}

// stops are the keywords and symbols that cannot begin a stat, and end a seq.
func stops() map[string]bool {
	return map[string]bool{
		")": true, "]": true, "}": true, ",": true, "|": true, "=>": true, ":": true,
		"then": true, "elseif": true, "else": true, "end": true, "do": true, "until": true, "in": true,
		"where": true, "new": true, "fun": true, "be": true, "use": true, "class": true, "actor": true,
		"primitive": true, "trait": true, "interface": true, "type": true,
	}
}

// terms are the keywords and symbols that can begin a term.
func terms() map[string]bool {
	return map[string]bool{
		"not": true, "-": true, "consume": true, "true": true, "false": true, "this": true, "var": true, "let": true,
		"(": true, "[": true, "{": true, "if": true, "ifdef": true, "while": true, "repeat": true, "for": true,
		"with": true, "match": true, "try": true, "recover": true, "object": true,
	}
}

func node(kind int, text string, kids ...api.Node) api.Node {
	return api.Node{Kind: kind, Text: text, Kids: kids}
}

func word(text string) api.Node { return node(syntax.Word, text) }

func nothing() api.Node { return node(syntax.Nothing, "") }

func (r *reader) done() bool { return r.next == len(r.tokens) }

// fail leaves with an error at the next token, or with ErrEnd where there is none.
func (r *reader) fail(code api.Errno) {
	if r.done() {
		panic(failure{r.end, api.ErrEnd})
	}
	panic(failure{r.tokens[r.next].At, code})
}

// word returns the next token's text, if it is a keyword or a symbol.
func (r *reader) word() string {
	if r.done() {
		return ""
	}
	if t := r.tokens[r.next]; t.Kind == token.Keyword || t.Kind == token.Symbol {
		return t.Text
	}
	return ""
}

func (r *reader) kind() int {
	if r.done() {
		return 0
	}
	return r.tokens[r.next].Kind
}

// onLine reports whether there is a next token, and it does not have Line.
func (r *reader) onLine() bool { return !r.done() && !r.tokens[r.next].Line }

func (r *reader) is(text string) bool { return r.word() == text }

// take goes on behind a keyword or symbol, if it is the next token.
func (r *reader) take(text string) bool {
	if !r.is(text) {
		return false
	}
	r.next++
	return true
}

func (r *reader) want(text string) {
	if !r.take(text) {
		r.fail(ErrToken)
	}
}

// text goes on behind the next token, and returns its text.
func (r *reader) text() string {
	t := r.tokens[r.next].Text
	r.next++
	return t
}

// oneOf goes on behind one of some keywords or symbols, and returns it, or the empty text.
func (r *reader) oneOf(words ...string) string {
	for _, w := range words {
		if r.take(w) {
			return w
		}
	}
	return ""
}

func (r *reader) name() string {
	if r.kind() != token.Ident {
		r.fail(ErrToken)
	}
	if !token.IsIdent(r.tokens[r.next].Text) {
		r.fail(api.ErrForm)
	}
	return r.text()
}

// list reads one element or more with a separator between them.
func list[T any](r *reader, separator string, read func(*reader) T) []T {
	var l []T
	for {
		x := read(r)
		l = append(l, x)
		if !r.take(separator) {
			return l
		}
	}
}

// maybe reads what stands behind a keyword or symbol, or returns a Nothing without this.
func (r *reader) maybe(first string, read func(*reader) api.Node) api.Node {
	if !r.take(first) {
		return nothing()
	}
	return read(r)
}

// behind reads what must stand behind a keyword or symbol.
func (r *reader) behind(first string, read func(*reader) api.Node) api.Node {
	r.want(first)
	return read(r)
}
