package world_test

import (
	"slices"
	"testing"

	"hackamore/api"
	"hackamore/internal/sample"
	. "hackamore/world"
)

// any returns a value by chance, mostly a right one.
func (c chance) any(s State) api.Value {
	switch c.pick(12) {
	case 0:
		return obj(c.pick(len(s.Cells)+2) - 1)
	case 1:
		return act(c.pick(len(s.Actors)+2) - 1)
	case 2:
		return api.Value{}
	case 3:
		return tuple(c.any(s), c.any(s))
	case 4:
		return truth(uint64(c.pick(3)))
	case 5:
		return index(uint64(c.pick(5)))
	case 6:
		return unit([]string{"None", "U8", "Env"}[c.pick(3)])
	case 7:
		return u8(uint64(c.pick(256)))
	}
	return obj(c.pick(len(s.Cells)))
}

func (c chance) list(s State) []api.Value {
	var l []api.Value
	for range c.pick(3) {
		l = append(l, c.any(s))
	}
	return l
}

// act does something with a world, and returns whether it must not have changed anything.
func (c chance) act(w *World, s State) bool {
	actor := c.pick(len(s.Actors)+2) - 1
	typ := []string{"main.Cell", "main.Act", "Env", "String", "Array[U8 val]", "None", "Nope"}[c.pick(7)]
	e := api.OK
	switch c.pick(11) {
	case 0:
		_, e = w.Make(actor, typ)
	case 1:
		_, e = w.Text(actor, "text")
	case 2:
		_, e = w.Array(actor, typ, c.list(s))
	case 3:
		_, e = w.Spawn(typ)
	case 4:
		_, e = w.Take(actor)
	case 5:
		e = w.Send(api.Message{From: c.pick(5) - 2, To: actor, Name: "go", Args: c.list(s)})
	case 6:
		_, e = w.Set(c.any(s), []string{"v", "next", "c", "n", "out", "x"}[c.pick(6)], c.any(s))
	case 7:
		_, e = w.Get(c.any(s), "v")
		return true
	default:
		names := []string{"size", "apply", "update", "push", "pop", "string", "add", "substring", "eq", "print", "nope"}
		v, raised, code := w.Call(actor, c.any(s), names[c.pick(len(names))], c.list(s))
		return code != api.OK || raised || v.Kind == api.ValBool
	}
	return e != api.OK
}

// TestRight checks P17.2 and P17.5: whatever is done, the state is right; what has an error changes nothing.
func TestRight(t *testing.T) {
	for seed := range 20 {
		c := chance{sample.Source(uint64(seed))}
		w := begun(t, cells(), "a")
		for range 300 {
			s := w.State()
			if c.act(w, s) {
				unchanged(t, w, s)
			}
			right(t, w)
			if t.Failed() {
				t.Fatal(w.Dump())
			}
			for _, v := range c.list(s) {
				text, e := w.Show(v)
				again, f := w.Show(v)
				if text != again || e != f || w.Dump() != w.Dump() {
					t.Fatal("Show and Dump are not always the same")
				}
			}
		}
	}
}

// renumbered returns a state whose objects are in another order, with others between them that nothing reaches.
func (c chance) renumbered(s State) (State, []int) {
	places := make([]int, len(s.Cells)+c.pick(4))
	for i := range places {
		places[i] = i
	}
	for i := range places {
		j := i + c.pick(len(places)-i)
		places[i], places[j] = places[j], places[i]
	}
	var moved func(v api.Value) api.Value
	all := func(l []api.Value) []api.Value {
		var out []api.Value
		for _, v := range l {
			out = append(out, moved(v))
		}
		return out
	}
	moved = func(v api.Value) api.Value {
		if v.Kind == api.ValObject {
			v.Lo = uint64(places[v.Lo])
		}
		v.Kids = all(v.Kids)
		return v
	}
	out := State{Program: s.Program, Cells: slices.Repeat([]api.Cell{{Type: "String", Bytes: "other"}}, len(places)), Trace: s.Trace, Output: s.Output}
	for i, x := range s.Cells {
		x.Fields = all(x.Fields)
		out.Cells[places[i]] = x
	}
	for _, a := range s.Actors {
		b := Actor{Type: a.Type, Fields: all(a.Fields)}
		for _, m := range a.Mail {
			m.Args = all(m.Args)
			b.Mail = append(b.Mail, m)
		}
		out.Actors = append(out.Actors, b)
	}
	return out, places
}

// TestNumbers checks P17.4: texts tell nothing of the numbers of objects.
func TestNumbers(t *testing.T) {
	c := chance{sample.Source(9)}
	for range 1000 {
		s := c.state()
		s.Output = []string{"x", "\n"}
		other, places := c.renumbered(s)
		v, w := loaded(t, s), loaded(t, other)
		if a, b := v.Dump(), w.Dump(); a != b {
			t.Fatalf("%s\nand %s", a, b)
		}
		for i := range s.Cells {
			a, e := v.Show(obj(i))
			b, f := w.Show(obj(places[i]))
			if a != b || e != f {
				t.Fatalf("%s\nand %s", a, b)
			}
		}
	}
}
