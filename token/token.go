// Package token is layer 1: the tokens of a module's text. See shared/doc/01-token.md.
package token

import (
	"slices"
	"strings"
	"unicode/utf8"

	"hackamore/api"
)

// Errors of this layer.
const (
	ErrChar    api.Errno = 30 // a byte that begins no token
	ErrString  api.Errno = 31 // a string or a character that is not closed, or has a wrong escape
	ErrComment api.Errno = 32 // a comment that is not closed
	ErrNumber  api.Errno = 33 // a number that has not the form, or is too large
)

// Kinds of tokens.
const (
	Ident   = 1
	Keyword = 2
	Int     = 3
	Float   = 4
	String  = 5
	Symbol  = 6
)

// Token is a token: its kind, its text, where it begins, and whether it is the first one of its line.
type Token struct {
	Kind int
	Text string
	At   int
	Line bool
}

// Scan returns the tokens of a text, or the place of an error.
func Scan(text string) ([]Token, int, api.Errno) {
	if len(text) > api.MaxSource {
		return nil, 0, api.ErrLarge
	}
	return scan(text)
}

// Text returns a text with given tokens.
func Text(l []Token) (string, api.Errno) {
	var b strings.Builder
	words := keywordSet()
	for i, t := range l {
		if i == 0 && !t.Line || !possible(t, words) {
			return "", api.ErrForm
		}
		if i > 0 {
			b.WriteByte(gap(t))
		}
		b.WriteString(written(t))
		if b.Len() > api.MaxSource {
			return "", api.ErrLarge
		}
	}
	return b.String(), api.OK
}

// gap is the blank ahead of a token that is not the first one.
func gap(t Token) byte {
	if t.Line {
		return '\n'
	}
	return ' '
}

func written(t Token) string {
	if t.Kind == String {
		s, _ := Quote(t.Text)
		return s
	}
	return t.Text
}

// possible reports whether a token of this kind can have this text.
func possible(t Token, words map[string]bool) bool {
	switch t.Kind {
	case Ident:
		return isWord(t.Text) && !words[t.Text]
	case Keyword:
		return words[t.Text]
	case Int, Float:
		l, _, e := scan(t.Text)
		return e == api.OK && len(l) == 1 && l[0].Kind == t.Kind && l[0].Text == t.Text
	case String:
		return utf8.ValidString(t.Text)
	case Symbol:
		l := symbols()
		return slices.Contains(l[:], t.Text)
	}
	return false
}

// Keywords returns all keywords.
func Keywords() []string {
	l := keywords()
	return l[:]
}

// Symbols returns all symbols, in the order of the document.
func Symbols() []string {
	l := symbols()
	return l[:]
}

// IsIdent reports whether a text is an identifier.
func IsIdent(s string) bool {
	l := keywords()
	return len(s) <= api.MaxName && isWord(s) && !slices.Contains(l[:], s)
}

// isWord reports whether a text has the form of an Ident or a Keyword.
func isWord(s string) bool {
	body := strings.TrimRight(s, "'")
	if body == "" || isDigit(body[0]) {
		return false
	}
	for i := range len(body) {
		if !isPart(body[i]) {
			return false
		}
	}
	return true
}

// Quote returns the literal of a string.
func Quote(s string) (string, api.Errno) {
	if !utf8.ValidString(s) {
		return "", api.ErrForm
	}
	const great = "0123456789ABCDEF"
	var b strings.Builder
	b.WriteByte('"')
	for i := range len(s) {
		c := s[i]
		switch {
		case c == '"' || c == '\\':
			b.WriteByte('\\')
			b.WriteByte(c)
		case c == '\n':
			b.WriteString("\\n")
		case c == '\t':
			b.WriteString("\\t")
		case c == '\r':
			b.WriteString("\\r")
		case c == 0:
			b.WriteString("\\0")
		case c < 32 || c == 127:
			b.WriteString("\\x")
			b.WriteByte(great[c>>4])
			b.WriteByte(great[c&15])
		default:
			b.WriteByte(c)
		}
	}
	b.WriteByte('"')
	return b.String(), api.OK
}

func keywords() [51]string {
	return [...]string{
		"actor", "and", "as", "be", "box", "break", "class", "consume", "continue", "do", "else", "elseif",
		"end", "error", "false", "for", "fun", "if", "ifdef", "in", "interface", "is", "isnt", "iso",
		"let", "match", "new", "not", "object", "or", "primitive", "recover", "ref", "repeat", "return", "tag",
		"then", "this", "trait", "trn", "true", "try", "type", "until", "use", "val", "var", "where",
		"while", "with", "xor",
	}
}

// symbols are all symbols; no symbol stands ahead of a longer one that begins with it.
func symbols() [43]string {
	return [...]string{
		"<<", ">>", "==", "!=", "<=", ">=", "=>", "->", ".>", "+?", "-?", "*?", "/?", "%?",
		"#read", "#send", "#share", "#alias", "#any",
		"(", ")", "[", "]", "{", "}", ",", ".", ":", ";", "?", "=", "<", ">",
		"+", "-", "*", "/", "%", "|", "&", "^", "!", "~",
	}
}

func keywordSet() map[string]bool {
	set := map[string]bool{}
	for _, w := range keywords() {
		set[w] = true
	}
	return set
}

func isLetter(c byte) bool { return c >= 'a' && c <= 'z' || c >= 'A' && c <= 'Z' }

func isDigit(c byte) bool { return c >= '0' && c <= '9' }

// isPart reports whether a byte may stand in a word behind its beginning, ahead of its primes.
func isPart(c byte) bool { return isLetter(c) || isDigit(c) || c == '_' }
