package world_test

import (
	"testing"

	"hackamore/api"
	"hackamore/internal/sample"
	. "hackamore/world"
)

// wildValue returns a value of any form.
func (c chance) wildValue(depth int) api.Value {
	v := api.Value{Kind: c.pick(30) - 3}
	if c.pick(2) == 0 {
		v.Lo = []uint64{0, 1, 2, 7, 255, 256, 20000, 1 << 40, 1<<64 - 1}[c.pick(9)]
	}
	if c.pick(8) == 0 {
		v.Hi = uint64(c.pick(3))
	}
	if c.pick(4) == 0 {
		v.Name = []string{"None", "U8", "Env", "x"}[c.pick(4)]
	}
	if depth > 0 && c.pick(3) == 0 {
		for range c.pick(4) {
			v.Kids = append(v.Kids, c.wildValue(depth-1))
		}
	}
	return v
}

func (c chance) wildValues() []api.Value {
	var l []api.Value
	for range c.pick(4) {
		l = append(l, c.wildValue(2))
	}
	return l
}

// TestGarbage checks P1: there is an answer to anything, it is the same again, and the state stays right.
func TestGarbage(t *testing.T) {
	c := chance{sample.Source(11)}
	types := sample.TypeMaker{Pick: c.pick, Names: map[int][]string{0: {"main.X", "U8", "Any"}, 1: {"main.X"}, 2: {"Any"}}, Params: []string{"A"}, Self: true}
	names := []string{"", "v", "f0", "main.X", "String", "Array[U8 val]", "print", "size", "add", "Out", "main.A", "a", "\xff"}
	name := func() string { return names[c.pick(len(names))] }
	for range 300 {
		w := loaded(t, c.state())
		for range 30 {
			v, x, typ := c.wildValue(2), c.wildValue(2), types.Any(3)
			n := c.pick(9) - 3
			first, e := w.Show(v)
			second, f := w.Show(v)
			if first != second || e != f || w.Is(v, typ) != w.Is(v, typ) || !Same(v, v) || w.Type(v) != w.Type(v) {
				t.Fatalf("%v is not always the same", v)
			}
			w.Get(v, name())
			w.Set(v, name(), x)
			w.Send(api.Message{From: n, To: c.pick(5) - 1, Name: name(), Args: c.wildValues()})
			w.Call(n, v, name(), c.wildValues())
			w.Array(n, name(), c.wildValues())
			w.Make(n, name())
			w.Spawn(name())
			w.Take(n)
			w.Method(name(), name())
			w.Choose(n)
			w.Paths()
			w.Dump()
		}
		if e := Check(w.State()); e != api.OK {
			t.Fatalf("the state is not right: error %d", e)
		}
		w.Drop(c.pick(9) - 2) // behind these the state need not be right, but there is an answer
		w.Remove(c.pick(5) - 1)
		w.Race()
		w.Dump()
		w.Show(obj(c.pick(9)))
		for i := range w.State().Cells {
			w.Show(obj(i))
			w.Get(obj(i), "f0")
		}
	}
}

// TestGarbageStates: Check tells of any state whether it is right, and Load takes just those.
func TestGarbageStates(t *testing.T) {
	c := chance{sample.Source(12)}
	taken := 0
	for range 3000 {
		s := c.state()
		switch c.pick(6) {
		case 0:
			s.Actors[c.pick(len(s.Actors))].Fields = c.wildValues()
		case 1:
			s.Cells[c.pick(len(s.Cells))] = api.Cell{Type: []string{"", "String", "main.X", "Array[x]"}[c.pick(4)], Owner: c.pick(6) - 2, Fields: c.wildValues(), Bytes: []string{"", "x"}[c.pick(2)]}
		case 2:
			s.Actors[c.pick(len(s.Actors))].Mail = []api.Message{{From: c.pick(6) - 2, To: c.pick(3), Args: c.wildValues()}}
		case 3:
			s.Actors[c.pick(len(s.Actors))].Type = []string{"", "Out", "Env", "main.A"}[c.pick(4)]
		case 4:
			s.Program[c.pick(len(s.Program))] = api.Entity{Kind: c.pick(7), Name: []string{"", "None", "Env", "main.X"}[c.pick(4)]}
		}
		e := Check(s)
		w, f := Load(s)
		if e != f || (w == nil) != (e != api.OK) || e != api.OK && e != ErrBroken && e != ErrMethod && e != api.ErrTwice {
			t.Fatalf("Check %d, Load %d", e, f)
		}
		if w != nil {
			taken++
			if !alikeStates(w.State(), s) {
				t.Fatal("State of Load is another one")
			}
			w.Paths()
			w.Dump()
		}
	}
	if taken < 500 || taken > 2500 {
		t.Errorf("%d were taken", taken)
	}
}
