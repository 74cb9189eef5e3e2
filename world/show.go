package world

import (
	"strconv"
	"strings"

	"hackamore/api"
	"hackamore/num"
)

// failure is what ends the walk of a value.
type failure struct{ code api.Errno }

// shower writes the texts of values. Objects that were met are numbered through all texts.
type shower struct {
	w       *World
	numbers map[int]int // of the objects that were met
	met     []int       // these objects, in order
	text    []byte      // of the value that is being written
	isLarge bool        // the text has too many bytes: what is left is looked at for its depth alone
	walked  map[group]int
}

func newShower(w *World) *shower { return &shower{w: w, numbers: map[int]int{}} }

// Show returns the text of a value.
func (w *World) Show(v api.Value) (string, api.Errno) {
	switch {
	case w == nil:
		return "", api.ErrArg
	case !w.isRight(v):
		return "", ErrBroken
	}
	return newShower(w).show(v)
}

// show returns the text of a value; with an error no object is met.
func (s *shower) show(v api.Value) (text string, e api.Errno) {
	ahead := len(s.met)
	s.text, s.isLarge, s.walked = s.text[:0], false, nil
	defer func() {
		if x := recover(); x != nil {
			f, ok := x.(failure)
			if !ok {
				f.code = ErrBroken
			}
			text, e = "", f.code
		}
		if e != api.OK {
			s.forget(ahead)
		}
	}()
	s.value(v, 0)
	if s.isLarge {
		return "", api.ErrLarge
	}
	return string(s.text), api.OK
}

// forget forgets the objects that were met from an index on.
func (s *shower) forget(from int) {
	for _, cell := range s.met[from:] {
		delete(s.numbers, cell)
	}
	s.met = s.met[:from]
}

func (s *shower) write(text string) {
	if s.isLarge || len(s.text)+len(text) > api.MaxSource {
		s.isLarge = true
		return
	}
	s.text = append(s.text, text...)
}

// value writes a value that stands in so many objects and tuples.
func (s *shower) value(v api.Value, depth int) {
	if depth > api.MaxTree {
		panic(failure{api.ErrDepth})
	}
	switch v.Kind {
	case api.ValNone:
		s.write("none")
	case api.ValUnit:
		s.write(v.Name)
	case api.ValActor:
		s.write("@" + strconv.FormatUint(v.Lo, 10))
	case api.ValTuple:
		s.tuple(v, depth)
	case api.ValObject:
		s.object(number(v), depth)
	default:
		s.number(v)
	}
}

func (s *shower) number(v api.Value) {
	text, _ := num.Text(v)
	if v.Kind != api.ValBool {
		text = s.w.Type(v) + " " + text
	}
	s.write(text)
}

// tuple writes a tuple. If nothing is written any more, one that was walked as deep needs not be walked again: all objects in it were met.
func (s *shower) tuple(v api.Value, depth int) {
	if most, ok := s.walked[groupOf(v)]; ok && s.isLarge && depth <= most {
		return
	}
	s.list("(", v.Kids, nil, ")", depth)
	if s.isLarge {
		if s.walked == nil {
			s.walked = map[group]int{}
		}
		s.walked[groupOf(v)] = depth
	}
}

// list writes the values of an object, or a tuple, with the names of the fields, if it has any.
func (s *shower) list(open string, l []api.Value, fields []api.Field, end string, depth int) {
	s.write(open)
	for i, v := range l {
		if i > 0 {
			s.write(", ")
		}
		if fields != nil {
			s.write(fields[i].Name + "=")
		}
		s.value(v, depth+1)
	}
	s.write(end)
}

func (s *shower) object(cell, depth int) {
	if n, ok := s.numbers[cell]; ok {
		s.write(mark(n))
		return
	}
	if !s.w.hasCell(cell) { // it was taken away, although a field refers to it
		panic(failure{ErrBroken})
	}
	n := len(s.met)
	s.numbers[cell] = n
	s.met = append(s.met, cell)
	c := s.w.state.Cells[cell]
	if isString(c.Type) {
		s.write(quoted(c.Bytes) + mark(n))
		return
	}
	fields, _, _ := s.w.parts(api.Value{Kind: api.ValObject, Lo: uint64(cell)})
	s.list(c.Type+mark(n)+"{", c.Fields, fields, "}", depth)
}

func mark(n int) string { return "#" + strconv.Itoa(n) }

func quoted(bytes string) string {
	return `"` + strings.NewReplacer(`\`, `\\`, `"`, `\"`, "\n", `\n`).Replace(bytes) + `"`
}

// Dump returns the text of a world.
func (w *World) Dump() string {
	if w == nil {
		return ""
	}
	var out strings.Builder
	s := newShower(w)
	for i, a := range w.state.Actors {
		if a.Type == "" {
			continue
		}
		out.WriteString("actor " + strconv.Itoa(i) + " " + a.Type + "{")
		e, _ := w.entityOf(api.Actor, a.Type)
		for j, v := range a.Fields {
			out.WriteString(separator(j) + e.Fields[j].Name + "=" + s.shown(v))
		}
		out.WriteString("}\n")
		for _, m := range a.Mail {
			out.WriteString(" " + m.Name + "(")
			for j, v := range m.Args {
				out.WriteString(separator(j) + s.shown(v))
			}
			out.WriteString(") from " + strconv.Itoa(m.From) + "\n")
		}
	}
	for _, bytes := range w.state.Output {
		out.WriteString("out " + quoted(bytes) + "\n")
	}
	return out.String()
}

// separator stands ahead of an element of a list.
func separator(i int) string {
	if i == 0 {
		return ""
	}
	return ", "
}

// shown returns the text of a value, and `?` where it has none.
func (s *shower) shown(v api.Value) string {
	text, e := s.show(v)
	if e != api.OK {
		return "?"
	}
	return text
}
