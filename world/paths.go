package world

import (
	"cmp"
	"slices"
	"strings"

	"hackamore/api"
	"hackamore/cap"
	"hackamore/types"
)

// Path says that an object is reached from an actor (Message -1) or from a message of its mail, with a capability.
type Path struct{ Actor, Message, Cell, Cap int }

func comparePaths(a, b Path) int {
	return cmp.Or(cmp.Compare(a.Actor, b.Actor), cmp.Compare(a.Message, b.Message), cmp.Compare(a.Cell, b.Cell), cmp.Compare(a.Cap, b.Cap))
}

// isBeside reports whether two paths come from different actors or messages.
func (p Path) isBeside(q Path) bool { return p.Actor != q.Actor || p.Message != q.Message }

// Paths returns all paths to objects, once each.
func (w *World) Paths() []Path {
	if w == nil {
		return nil
	}
	f := &finder{w: w, answers: map[question]bool{}, elements: map[string]api.Type{}, known: map[Path]bool{}}
	for i, a := range w.state.Actors {
		if a.Type != "" {
			f.begin(i, a)
		}
	}
	for n := 0; n < len(f.queue); n++ {
		f.follow(f.queue[n])
	}
	slices.SortFunc(f.queue, comparePaths)
	return f.queue
}

// Race returns two paths, one of which writes what the other one reads.
func (w *World) Race() (Path, Path, bool) {
	paths := w.Paths()
	reading := map[int][]Path{} // by their objects
	for _, p := range paths {
		if p.Cap != api.Tag {
			reading[p.Cell] = append(reading[p.Cell], p)
		}
	}
	for _, p := range paths {
		if !cap.Writes(p.Cap) {
			continue
		}
		if i := slices.IndexFunc(reading[p.Cell], p.isBeside); i >= 0 {
			return p, reading[p.Cell][i], true
		}
	}
	return Path{}, Path{}, false
}

// glimpse is an object that is seen with a capability.
type glimpse struct{ cell, cap int }

// question asks whether values of an entity are of a type that is the name of one.
type question struct {
	entity, name string
	cap, mark    int
}

// finder finds paths: those that it knows wait in a queue, and stay there.
type finder struct {
	w        *World
	answers  map[question]bool
	elements map[string]api.Type // of the names of Arrays; the zero Type for those without any
	known    map[Path]bool
	queue    []Path
}

// begin finds what an actor, and the messages in its mail, reach at once.
func (f *finder) begin(actor int, a Actor) {
	e, _ := f.w.entityOf(api.Actor, a.Type)
	for i, v := range a.Fields {
		f.reach(Path{Actor: actor, Message: -1}, v, e.Fields[i].Type, api.Ref)
	}
	for i, m := range a.Mail {
		method, code := f.w.Method(a.Type, m.Name)
		if code != api.OK || len(method.Params) != len(m.Args) {
			continue
		}
		for j, v := range m.Args {
			f.reach(Path{Actor: actor, Message: i}, v, method.Params[j].Type, api.Ref)
		}
	}
}

// follow finds what an object that is reached reaches.
func (f *finder) follow(p Path) {
	origin := p.Cap
	switch origin {
	case api.Tag:
		return
	case api.Iso, api.Trn: // whoever has it may make a ref of it
		origin = api.Ref
	}
	c := f.w.state.Cells[p.Cell]
	if isArray(c.Type) {
		t := f.element(c.Type)
		for _, v := range c.Fields {
			f.reach(p, v, t, origin)
		}
		return
	}
	fields, values, _ := f.w.parts(api.Value{Kind: api.ValObject, Lo: uint64(p.Cell)})
	for i, v := range values {
		f.reach(p, v, fields[i].Type, origin)
	}
}

// reach notes the objects that are seen in a value, for the actor, or the message, of a path.
func (f *finder) reach(from Path, v api.Value, t api.Type, origin int) {
	for _, g := range f.seen(v, t, origin) {
		p := Path{from.Actor, from.Message, g.cell, g.cap}
		if !f.known[p] {
			f.known[p] = true
			f.queue = append(f.queue, p)
		}
	}
}

// seen returns the objects that are seen in a value of a type, from a capability.
func (f *finder) seen(v api.Value, t api.Type, origin int) []glimpse {
	var l []glimpse
	switch t.Kind {
	case api.TypeName:
		c, ok := cap.View(origin, counts(t))
		if ok && v.Kind == api.ValObject && f.is(v, t) {
			l = append(l, glimpse{number(v), c})
		}
	case api.TypeUnion, api.TypeBoth:
		for _, a := range t.Args {
			l = append(l, f.seen(v, a, origin)...)
		}
		if t.Kind == api.TypeUnion {
			l = least(l)
		}
	case api.TypeArrow:
		if len(t.Args) > 1 {
			l = f.seen(v, t.Args[1], origin)
		}
	case api.TypeTuple:
		if v.Kind != api.ValTuple || len(v.Kids) != len(t.Args) {
			break
		}
		for i, k := range v.Kids {
			l = append(l, f.seen(k, t.Args[i], origin)...)
		}
	}
	return l
}

// least leaves out the capabilities with which an object is seen, if it is seen with a lesser one, too.
func least(l []glimpse) []glimpse {
	all := map[int][]int{} // the capabilities of each object
	for _, g := range l {
		if !slices.Contains(all[g.cell], g.cap) {
			all[g.cell] = append(all[g.cell], g.cap)
		}
	}
	return slices.DeleteFunc(l, func(g glimpse) bool {
		return slices.ContainsFunc(all[g.cell], func(c int) bool { return c != g.cap && cap.Sub(g.cap, c) })
	})
}

// counts returns what counts of a capability with a mark.
func counts(t api.Type) int {
	switch {
	case t.Mark == api.Aliased && t.Cap == api.Iso:
		return api.Tag
	case t.Mark == api.Aliased && t.Cap == api.Trn:
		return api.Box
	}
	return t.Cap
}

// is is Is of an object. It keeps the answers for types that are nothing but names.
func (f *finder) is(v api.Value, t api.Type) bool {
	if len(t.Args) > 0 {
		return f.w.Is(v, t)
	}
	q := question{f.w.Type(v), t.Name, t.Cap, t.Mark}
	answer, ok := f.answers[q]
	if !ok {
		answer = f.w.Is(v, t)
		f.answers[q] = answer
	}
	return answer
}

// element returns the element type of the name of an Array.
func (f *finder) element(name string) api.Type {
	t, ok := f.elements[name]
	if !ok {
		t = elementType(name)
		f.elements[name] = t
	}
	return t
}

// elementType returns the element type of the name of an Array, the zero Type if there is none.
func elementType(name string) api.Type {
	t, e := types.Parse(name + " val")
	if e != api.OK || len(t.Args) == 0 {
		return api.Type{}
	}
	return flat(t.Args[0])
}

// flat returns a type whose names are those of reified programs: they have no arguments any more.
func flat(t api.Type) api.Type {
	if t.Kind != api.TypeName {
		t.Args = mapped(t.Args, flat)
		return t
	}
	if len(t.Args) > 0 {
		texts := mapped(t.Args, func(a api.Type) string {
			text, _ := types.Text(a)
			return text
		})
		t.Name += "[" + strings.Join(texts, ", ") + "]"
		t.Args = nil
	}
	return t
}
