package types

import (
	"strings"

	"hackamore/api"
	"hackamore/cap"
)

// Limits of a text that is read.
const (
	maxSource = 20000
	maxOpen   = 200
)

// Separators of the kinds from TypeUnion to TypeArrow.
var separators = [...]string{
	api.TypeUnion: " | ", api.TypeBoth: " & ", api.TypeTuple: ", ", api.TypeArrow: " -> ",
}

// Text returns the text of a type.
func Text(t api.Type) (string, api.Errno) {
	if e := Check(t); e != api.OK {
		return "", e
	}
	return text(t), api.OK
}

// text is Text of a type of any size.
func text(t api.Type) string {
	var w strings.Builder
	write(&w, t)
	return w.String()
}

func write(w *strings.Builder, t api.Type) {
	switch t.Kind {
	case api.TypeName:
		w.WriteString(quoted(t.Name))
		if len(t.Args) > 0 {
			writeList(w, "[", ", ", "]", t.Args)
		}
	case api.TypeParam:
		w.WriteString("$" + quoted(t.Name))
	case api.TypeSelf:
		w.WriteString("this")
	default:
		writeList(w, "(", separators[t.Kind], ")", t.Args)
		return
	}
	writeEnd(w, t)
}

func writeList(w *strings.Builder, open, separator, end string, l []api.Type) {
	for i, a := range l {
		if i == 0 {
			w.WriteString(open)
		} else {
			w.WriteString(separator)
		}
		write(w, a)
	}
	w.WriteString(end)
}

// writeEnd writes the capability and the mark.
func writeEnd(w *strings.Builder, t api.Type) {
	if t.Cap != api.CapNone {
		w.WriteString(" " + cap.Name(t.Cap))
	}
	switch t.Mark {
	case api.Ephemeral:
		w.WriteString("^")
	case api.Aliased:
		w.WriteString("!")
	}
}

func isNameByte(c byte) bool {
	return c >= 'a' && c <= 'z' || c >= 'A' && c <= 'Z' || c >= '0' && c <= '9' || c == '_' || c == '.' || c == '\''
}

// isPlain reports whether a name is written without quotes.
func isPlain(name string) bool {
	if name == "" || name == "this" || strings.IndexByte("0123456789'.", name[0]) >= 0 {
		return false
	}
	return nameBytes(name) == len(name)
}

// nameBytes returns how many bytes at the beginning of a text may stand in a name without quotes.
func nameBytes(s string) int {
	n := 0
	for n < len(s) && isNameByte(s[n]) {
		n++
	}
	return n
}

func quoted(name string) string {
	if isPlain(name) {
		return name
	}
	return `"` + strings.NewReplacer(`"`, `\"`, `\`, `\\`, "\n", `\n`).Replace(name) + `"`
}

// reader reads a text; open is how many brackets are open.
type reader struct {
	rest string
	open int
}

// Parse returns the type with a text.
func Parse(s string) (api.Type, api.Errno) {
	if len(s) > maxSource {
		return api.Type{}, api.ErrSize
	}
	r := &reader{rest: s}
	t, ok := r.typ()
	if !ok || r.rest != "" {
		return api.Type{}, api.ErrForm
	}
	if e := Check(t); e != api.OK {
		return api.Type{}, e
	}
	return t, api.OK
}

// take takes a text away that stands ahead.
func (r *reader) take(s string) bool {
	rest, ok := strings.CutPrefix(r.rest, s)
	r.rest = rest
	return ok
}

// typ reads a type, which may have a wrong form, as long as it has a text.
func (r *reader) typ() (api.Type, bool) {
	read := r.named
	switch {
	case r.open >= maxOpen:
		return api.Type{}, false
	case strings.HasPrefix(r.rest, "("):
		read = r.group
	case strings.HasPrefix(r.rest, "$"):
		read = r.param
	case r.rest[:nameBytes(r.rest)] == "this":
		read = r.self
	}
	return read()
}

func (r *reader) named() (t api.Type, ok bool) {
	t.Kind = api.TypeName
	if t.Name, ok = r.name(); !ok {
		return t, false
	}
	if r.take("[") {
		if t.Args, ok = r.list(", ", "]"); !ok {
			return t, false
		}
	}
	return r.end(t), true
}

func (r *reader) param() (t api.Type, ok bool) {
	t.Kind = api.TypeParam
	r.take("$")
	t.Name, ok = r.name()
	return r.end(t), ok
}

func (r *reader) self() (api.Type, bool) {
	r.take("this")
	return r.end(api.Type{Kind: api.TypeSelf}), true
}

// group reads what stands in round brackets; what follows the first type says of which kind it is.
func (r *reader) group() (t api.Type, ok bool) {
	r.take("(")
	r.open++
	first, ok := r.typ()
	r.open--
	if !ok {
		return t, false
	}
	for kind := api.TypeUnion; kind <= api.TypeArrow; kind++ {
		if r.take(separators[kind]) {
			more, ok := r.list(separators[kind], ")")
			return api.Type{Kind: kind, Args: append([]api.Type{first}, more...)}, ok
		}
	}
	return t, false
}

// list reads types with a separator between them, and what ends them.
func (r *reader) list(separator, end string) ([]api.Type, bool) {
	r.open++
	var l []api.Type
	for {
		t, ok := r.typ()
		if !ok {
			return nil, false
		}
		l = append(l, t)
		if !r.take(separator) {
			break
		}
	}
	r.open--
	return l, r.take(end)
}

// end reads the capability and the mark, as far as they are there.
func (r *reader) end(t api.Type) api.Type {
	for c := api.Iso; c <= api.CapAny; c++ {
		if r.take(" " + cap.Name(c)) {
			t.Cap = c
			break
		}
	}
	switch {
	case r.take("^"):
		t.Mark = api.Ephemeral
	case r.take("!"):
		t.Mark = api.Aliased
	}
	return t
}

func (r *reader) name() (string, bool) {
	if r.take(`"`) {
		name, ok := r.quoted()
		return name, ok && !isPlain(name)
	}
	n := nameBytes(r.rest)
	name := r.rest[:n]
	r.rest = r.rest[n:]
	return name, isPlain(name)
}

// quoted reads a name up to the quote behind it.
func (r *reader) quoted() (string, bool) {
	var w strings.Builder
	for r.rest != "" {
		c := r.rest[0]
		r.rest = r.rest[1:]
		switch {
		case c == '"':
			return w.String(), true
		case c == '\n':
			return "", false
		case c != '\\':
			w.WriteByte(c)
		case r.take(`"`):
			w.WriteByte('"')
		case r.take(`\`):
			w.WriteByte('\\')
		case r.take("n"):
			w.WriteByte('\n')
		default:
			return "", false
		}
	}
	return "", false
}
