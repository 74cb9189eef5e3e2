package code

import (
	"strconv"
	"strings"

	"hackamore/api"
	"hackamore/colour"
	"hackamore/types"
)

// writer writes the lines of a program.
type writer struct{ strings.Builder }

const hexDigits = "0123456789abcdef"

// hex writes a number in some hexadecimal digits.
func (w *writer) hex(n uint32, digits int) {
	for shift := 4 * (digits - 1); shift >= 0; shift -= 4 {
		w.WriteByte(hexDigits[n>>shift&15])
	}
}

func (w *writer) name(s string) {
	w.WriteByte('x')
	for i := range len(s) {
		w.hex(uint32(s[i]), 2)
	}
}

func (w *writer) number(n int) { w.WriteString(" " + strconv.Itoa(n)) }

func (w *writer) typ(t api.Type) {
	s, _ := types.Text(t)
	w.WriteString(s)
}

func (w *writer) value(v api.Value) {
	w.WriteString(strconv.Itoa(v.Kind) + " " + strconv.FormatUint(v.Lo, 10) + " " + strconv.FormatUint(v.Hi, 10) + " ")
	w.name(v.Name)
}

func (w *writer) slot(s colour.Slot) {
	w.WriteString(strconv.Itoa(s.Selector) + " " + strconv.Itoa(s.Method))
}

func (w *writer) plain(n int) { w.WriteString(strconv.Itoa(n)) }

func (w *writer) word(n uint32) { w.hex(n, 8) }

func (w *writer) mapped(m Map) {
	w.plain(m.At)
	for _, r := range m.Live {
		w.number(r)
	}
}

func (w *writer) function(f Function) {
	w.name(f.Name)
	w.number(f.Params)
	w.WriteByte(' ')
	if len(f.Classes) == 0 {
		w.WriteByte('-')
	}
	for _, c := range f.Classes {
		w.plain(c)
	}
}

// writeLines writes a line for each element of a list.
func writeLines[T any](w *writer, l []T, keyword string, write func(*writer, T)) {
	for _, x := range l {
		w.WriteString(keyword + " ")
		write(w, x)
		w.WriteByte('\n')
	}
}

// Print returns the text of a program.
func Print(p Program) (string, api.Errno) {
	if _, e := Check(p); e != api.OK {
		return "", e
	}
	w := &writer{}
	writeLines(w, p.Texts, "text", (*writer).name)
	writeLines(w, p.Types, "type", (*writer).typ)
	writeLines(w, p.Values, "value", (*writer).value)
	writeLines(w, p.Entities, "entity", (*writer).name)
	writeLines(w, p.Selectors, "selector", (*writer).name)
	writeLines(w, p.Vector, "slot", (*writer).slot)
	writeLines(w, p.Offsets, "offset", (*writer).plain)
	writeLines(w, p.Colours, "colour", (*writer).plain)
	for _, f := range p.Functions {
		writeLines(w, []Function{f}, "function", (*writer).function)
		writeLines(w, f.Words, "word", (*writer).word)
		writeLines(w, f.Maps, "map", (*writer).mapped)
	}
	return w.String(), api.OK
}
