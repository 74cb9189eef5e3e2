package syntax

import (
	"strings"

	"hackamore/api"
	"hackamore/token"
)

// maxText is how many bytes a text of a tree may have.
const maxText = 100000

// Text returns the text of a tree as nested lists.
func Text(n api.Node) (string, api.Errno) {
	if e := Check(n); e != api.OK {
		return "", e
	}
	return write(n), api.OK
}

// write returns the text of a tree of the right form.
func write(n api.Node) string {
	var b strings.Builder
	all := shapes()
	var put func(api.Node)
	put = func(n api.Node) {
		b.WriteByte('(')
		b.WriteString(all[n.Kind].name)
		if n.Text != "" {
			q, _ := token.Quote(n.Text)
			b.WriteByte(' ')
			b.WriteString(q)
		}
		for _, k := range n.Kids {
			b.WriteByte(' ')
			put(k)
		}
		b.WriteByte(')')
	}
	put(n)
	return b.String()
}

// Parse returns the tree with a text.
func Parse(s string) (api.Node, api.Errno) {
	if len(s) > maxText {
		return api.Node{}, api.ErrLarge
	}
	n, ok := read(s)
	if !ok || checkForm(n) != api.OK || write(n) != s {
		return api.Node{}, api.ErrForm
	}
	if !fits(n) {
		return api.Node{}, api.ErrSize
	}
	return n, api.OK
}

// wrong is what a reader panics with when the text has not the form.
type wrong struct{}

// reader reads nested lists.
type reader struct {
	text  string
	at    int
	kinds map[string]int
}

// read returns the tree of a text, which may be of a wrong form, or be written in another way.
func read(s string) (n api.Node, ok bool) {
	defer func() {
		if recover() != nil {
			n, ok = api.Node{}, false
		}
	}()
	r := reader{text: s, kinds: map[string]int{}}
	for i, shape := range shapes() {
		r.kinds[shape.name] = i
	}
	n = r.node()
	return n, r.at == len(s)
}

// peek reports whether a byte stands at the place.
func (r *reader) peek(c byte) bool { return r.at < len(r.text) && r.text[r.at] == c }

func (r *reader) want(c byte) {
	if !r.peek(c) {
		panic(wrong{})
	}
	r.at++
}

func (r *reader) node() api.Node {
	r.want('(')
	n := api.Node{Kind: r.kinds[r.name()]}
	for r.peek(' ') {
		r.at++
		if r.peek('"') {
			n.Text = r.literal()
			continue
		}
		kid := r.node()
		n.Kids = append(n.Kids, kid)
	}
	r.want(')')
	return n
}

func (r *reader) name() string {
	from := r.at
	for r.at < len(r.text) && r.text[r.at] != ' ' && r.text[r.at] != ')' {
		r.at++
	}
	return r.text[from:r.at]
}

// literal reads what token.Quote writes.
func (r *reader) literal() string {
	r.want('"')
	var b strings.Builder
	for !r.peek('"') {
		if r.at == len(r.text) {
			panic(wrong{})
		}
		c := r.text[r.at]
		r.at++
		if c == '\\' {
			c = r.escape()
		}
		b.WriteByte(c)
	}
	r.want('"')
	return b.String()
}

func (r *reader) escape() byte {
	const letters, bytes = `ntr0"\`, "\n\t\r\x00\"\\"
	if r.at < len(r.text) {
		if i := strings.IndexByte(letters, r.text[r.at]); i >= 0 {
			r.at++
			return bytes[i]
		}
	}
	r.want('x')
	high := r.hex()
	return high<<4 | r.hex()
}

func (r *reader) hex() byte {
	if r.at < len(r.text) {
		if i := strings.IndexByte("0123456789ABCDEF", r.text[r.at]); i >= 0 {
			r.at++
			return byte(i)
		}
	}
	panic(wrong{})
}
