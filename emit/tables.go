package emit

import (
	"iter"
	"slices"

	"hackamore/api"
	"hackamore/code"
	"hackamore/colour"
	"hackamore/ssa"
	"hackamore/types"
)

// constant is what tells a value without Kids.
type constant struct {
	kind   int
	lo, hi uint64
	name   string
}

// tables are a program that is being made, and the indices of what its tables have.
type tables struct {
	out       code.Program
	functions map[string]int
	texts     map[string]int
	typed     map[string]int // by the texts of types
	constants map[constant]int
	entities  map[string]int
	selectors map[string]int
}

// newTables returns tables for a program that is right.
func newTables(p ssa.Program) *tables {
	t := &tables{functions: map[string]int{}, texts: map[string]int{}, typed: map[string]int{}, constants: map[constant]int{}, entities: map[string]int{}, selectors: map[string]int{}}
	for i, f := range p.Funcs {
		t.functions[f.Name] = i
	}
	var named, called []string
	for _, f := range p.Funcs {
		for x := range instructions(f) {
			switch x.Op {
			case ssa.Make:
				named = append(named, x.Text)
			case ssa.Spawn:
				named = append(named, x.Name)
			case ssa.Call:
				called = append(called, x.Text)
			}
		}
	}
	t.nameEntities(p.Entities, named)
	t.nameSelectors(called)
	t.colour()
	return t
}

// index returns the index of what has a key; if it is new, that of the place behind the last one.
func index[K comparable, T any](known map[K]int, key K, l *[]T, x T) int {
	i, ok := known[key]
	if !ok {
		i = len(*l)
		known[key] = i
		*l = append(*l, x)
	}
	return i
}

func (t *tables) text(s string) int { return index(t.texts, s, &t.out.Texts, s) }

func (t *tables) typ(x api.Type) int {
	s, _ := types.Text(x)
	return index(t.typed, s, &t.out.Types, x)
}

func (t *tables) value(v api.Value) int {
	mustFit(len(v.Kids) == 0)
	return index(t.constants, constant{v.Kind, v.Lo, v.Hi, v.Name}, &t.out.Values, v)
}

// nameEntities names the entities of the program, and then others; of two with one name the first one counts.
func (t *tables) nameEntities(l []api.Entity, named []string) {
	for i, x := range l {
		if _, ok := t.entities[x.Name]; !ok {
			t.entities[x.Name] = i
		}
		t.out.Entities = append(t.out.Entities, x.Name)
	}
	for _, name := range named {
		index(t.entities, name, &t.out.Entities, name)
	}
}

// splits hands on the ways in which the name of a function is the name of an entity, a dot, and a selector.
func (t *tables) splits(name string) iter.Seq2[string, string] {
	return func(yield func(string, string) bool) {
		for i := range len(name) {
			if name[i] != '.' {
				continue
			}
			if _, ok := t.entities[name[:i]]; ok && !yield(name[:i], name[i+1:]) {
				return
			}
		}
	}
}

// nameSelectors names the selectors, those ahead that an entity understands: layer 23 gets no more than these.
func (t *tables) nameSelectors(called []string) {
	understood := map[string]bool{}
	for name := range t.functions {
		for _, s := range t.splits(name) {
			understood[s] = true
		}
	}
	for _, ahead := range [...]bool{true, false} {
		for _, s := range called {
			if understood[s] == ahead {
				index(t.selectors, s, &t.out.Selectors, s)
			}
		}
	}
}

// entries returns what entities understand, by their names.
func (t *tables) entries() map[string][]colour.Entry {
	out := map[string][]colour.Entry{}
	for name, m := range t.functions {
		for entity, selector := range t.splits(name) {
			if s, ok := t.selectors[selector]; ok {
				out[entity] = append(out[entity], colour.Entry{Selector: s, Method: m})
			}
		}
	}
	for _, l := range out {
		slices.SortFunc(l, func(a, b colour.Entry) int { return a.Selector - b.Selector })
	}
	return out
}

// colour makes the vector by which methods are found. What stands behind the last entity that understands anything is not in it.
func (t *tables) colour() {
	w := colour.World{Bodies: make([]colour.Body, len(t.functions))}
	entries, last := t.entries(), 0
	for i, name := range t.out.Entities {
		if len(entries[name]) > 0 {
			last = i + 1
		}
		w.Classes = append(w.Classes, entries[name])
	}
	w.Classes = w.Classes[:last]
	colours, _ := colour.Colours(w)
	vector, offsets, e := colour.Pack(w, colours)
	mustFit(e == api.OK)
	t.out.Vector, t.out.Offsets, t.out.Colours = vector, offsets, colours
}
