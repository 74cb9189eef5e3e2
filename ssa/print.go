package ssa

import (
	"strconv"
	"strings"

	"hackamore/api"
)

// Limits of texts.
const (
	maxText      = 1000000
	maxParts     = 100 // of a type
	maxTypeDepth = 20
	maxCode      = 99 // of a Kind, a Cap and a Mark
)

func isCode(n int) bool { return n >= 0 && n <= maxCode }

// typeParts counts the parts of a type down to 0, as long as it can be written; false, if it cannot.
func typeParts(t api.Type, depth int, left *int) bool {
	*left--
	if *left < 0 || depth > maxTypeDepth || !isCode(t.Kind) || !isCode(t.Cap) || !isCode(t.Mark) || !isName(t.Name) {
		return false
	}
	for _, a := range t.Args {
		if !typeParts(a, depth+1, left) {
			return false
		}
	}
	return true
}

func isWritableType(t api.Type) bool {
	left := maxParts
	return typeParts(t, 1, &left)
}

// isWritableValue reports whether all Kinds of a value can be written; lists that are shared are looked at once.
func isWritableValue(v api.Value, seen map[group]bool) bool {
	if !isCode(v.Kind) {
		return false
	}
	if len(v.Kids) == 0 {
		return true
	}
	key := group{&v.Kids[0], len(v.Kids)}
	if seen[key] {
		return true
	}
	seen[key] = true
	for _, k := range v.Kids {
		if !isWritableValue(k, seen) {
			return false
		}
	}
	return true
}

func isWritableIns(x Ins) bool {
	return isWritableType(x.Type) && isWritableValue(x.Lit, map[group]bool{})
}

// checkWritable returns the error of a function that is to be written.
func checkWritable(f Func) api.Errno {
	if _, e := checkShape(f); e != api.OK {
		return e
	}
	for _, t := range append([]api.Type{f.Result}, f.Params...) {
		if !isWritableType(t) {
			return api.ErrForm
		}
	}
	for _, b := range f.Blocks {
		for _, x := range append([]Ins{b.End.Call}, b.Ins...) {
			if !isWritableIns(x) {
				return api.ErrForm
			}
		}
	}
	return api.OK
}

// Print returns the text of functions.
func Print(l []Func) (string, api.Errno) {
	if e := checkAllWritable(l); e != api.OK {
		return "", e
	}
	w := &writer{}
	for _, f := range l {
		if !w.isFull() {
			w.function(f)
		}
	}
	if w.isFull() {
		return "", api.ErrLarge
	}
	return w.String(), api.OK
}

func checkAllWritable(l []Func) api.Errno {
	if len(l) > maxFuncs {
		return api.ErrSize
	}
	for _, f := range l {
		if e := checkWritable(f); e != api.OK {
			return e
		}
	}
	return api.OK
}

// writer writes functions. Once it has more than a text may have, it writes no more.
type writer struct{ strings.Builder }

func (w *writer) isFull() bool { return w.Len() > maxText }

func (w *writer) put(words ...string) {
	for _, s := range words {
		if !w.isFull() {
			w.WriteString(s)
		}
	}
}

func (w *writer) number(n int) { w.put(" ", strconv.Itoa(n)) }

func (w *writer) flag(b bool) {
	if b {
		w.number(1)
		return
	}
	w.number(0)
}

func (w *writer) function(f Func) {
	w.put("func ")
	w.name(f.Name)
	w.put(" ")
	w.typ(f.Result)
	w.flag(f.Partial)
	for _, t := range f.Params {
		w.put(" ")
		w.typ(t)
	}
	w.put("\n")
	for _, b := range f.Blocks {
		w.put("block\n")
		for _, x := range b.Ins {
			w.ins(x)
			w.put("\n")
		}
		w.end(b.End)
		w.put("\n")
	}
}

func (w *writer) ins(x Ins) {
	w.put(rows[x.Op].name)
	w.number(x.Result)
	w.put(" ")
	w.typ(x.Type)
	w.list(x.Args)
	w.put(" ")
	w.name(x.Text)
	w.put(" ")
	w.name(x.Name)
	w.put(" ")
	w.value(x.Lit)
	w.number(x.N)
	w.flag(x.Flag)
}

func (w *writer) end(x End) {
	w.put(endRows[x.Kind].name)
	w.list(x.Args)
	w.list(x.To)
	if x.Kind == Try {
		w.put(" ")
		w.ins(x.Call)
	}
}

func (w *writer) list(l []int) {
	if len(l) == 0 {
		w.put(" -")
	}
	for i, n := range l {
		separator := ","
		if i == 0 {
			separator = " "
		}
		w.put(separator, strconv.Itoa(n))
	}
}

func isPlainByte(c byte) bool {
	return c >= 'a' && c <= 'z' || c >= 'A' && c <= 'Z' || c >= '0' && c <= '9' || c == '.' || c == '_'
}

// name writes a text as a word.
func (w *writer) name(s string) {
	const digits = "0123456789abcdef"
	w.put("x")
	for i := 0; i < len(s); i++ {
		if c := s[i]; isPlainByte(c) {
			w.put(s[i : i+1])
		} else {
			w.put("~", digits[c>>4:c>>4+1], digits[c&15:c&15+1])
		}
	}
}

// typ writes a type as a word.
func (w *writer) typ(t api.Type) {
	w.put(strconv.Itoa(t.Kind), ":")
	w.name(t.Name)
	w.put(":", strconv.Itoa(t.Cap), ":", strconv.Itoa(t.Mark))
	writeList(w, t.Args, (*writer).typ)
}

// value writes a value as a word.
func (w *writer) value(v api.Value) {
	if w.isFull() {
		return
	}
	w.put(strconv.Itoa(v.Kind), ":", strconv.FormatUint(v.Lo, 10), ":", strconv.FormatUint(v.Hi, 10), ":")
	w.name(v.Name)
	writeList(w, v.Kids, (*writer).value)
}

// writeList writes what a type or a value has, if it has anything, in brackets.
func writeList[T any](w *writer, l []T, write func(*writer, T)) {
	for i, x := range l {
		separator := ","
		if i == 0 {
			separator = "("
		}
		w.put(separator)
		write(w, x)
	}
	if len(l) > 0 {
		w.put(")")
	}
}
