package machine

import (
	"slices"
	"strings"

	"hackamore/api"
	"hackamore/code"
	"hackamore/colour"
	"hackamore/num"
	"hackamore/verify"
	"hackamore/world"
)

// function is a function that can be run: its instructions, by their indices, and the index of the one that begins with a word.
type function struct {
	code.Function
	ins    []code.Ins
	places []int
}

// arithmetic is what the text of an arith says: the type, the method, and the kinds of what it takes.
type arithmetic struct {
	typ, method string
	kinds       [2]int
	ok          bool
}

// machine is code that can be run. What is known of functions and texts is found when they are first needed.
type machine struct {
	code.Program
	Options
	functions  []*function
	entities   map[string]int // the first ones with a name
	selectors  map[string]int
	named      map[string]int // functions: the last ones with a name
	arithmetic map[string]arithmetic
	do         [code.Ops]instruction
}

// load returns a machine for code, if it is accepted.
func load(c code.Program, o Options) (*machine, api.Errno) {
	if _, e := verify.Check(c); e != api.OK {
		return nil, e
	}
	return newMachine(c, o), api.OK
}

func newMachine(c code.Program, o Options) *machine {
	m := &machine{c, o, make([]*function, len(c.Functions)), firsts(c.Entities), firsts(c.Selectors), map[string]int{}, map[string]arithmetic{}, instructions()}
	for i, f := range c.Functions {
		m.named[f.Name] = i
	}
	return m
}

// function returns a function by its index.
func (m *machine) function(n int) *function {
	if m.functions[n] == nil {
		m.functions[n] = functionOf(m.Functions[n])
	}
	return m.functions[n]
}

// meaningOf returns what the text of an arith says.
func (m *machine) meaningOf(text string) arithmetic {
	a, ok := m.arithmetic[text]
	if !ok {
		a = arithmeticOf(text)
		m.arithmetic[text] = a
	}
	return a
}

// firsts returns the indices of the first ones of equal texts.
func firsts(l []string) map[string]int {
	out := map[string]int{}
	for i, s := range slices.Backward(l) {
		out[s] = i
	}
	return out
}

func functionOf(f code.Function) *function {
	l, _, _ := code.All(f.Words)
	out := &function{f, l, make([]int, len(f.Words))}
	for i, x := range l {
		out.places[x.At] = i
	}
	return out
}

// kindOf returns the kind of a type's values.
func kindOf(typ string) (int, bool) {
	if typ == "Bool" {
		return api.ValBool, true
	}
	kind, e := num.Kind(typ)
	return kind, e == api.OK
}

func arithmeticOf(text string) arithmetic {
	typ, method, _ := strings.Cut(text, ".")
	kind, ok := kindOf(typ)
	l, _ := num.Methods(typ)
	i := slices.IndexFunc(l, func(s num.Signature) bool { return s.Name == method && len(s.Params) == 1 })
	if !ok || i < 0 {
		return arithmetic{}
	}
	param, ok := kindOf(l[i].Params[0])
	return arithmetic{typ, method, [...]int{kind, param}, ok}
}

// method returns the function by which values of a type do what a selector asks for; -1, if the runtime gives it.
func (m *machine) method(typ, selector string) int {
	i, ok := m.entities[typ]
	if !ok {
		return -1
	}
	return colour.Lookup(m.Vector, m.Offsets, m.Colours, i, m.selectors[selector])
}

// newRun returns a run for an actor.
func (m *machine) newRun(w *world.World, actor, fuel int) *run {
	fuel = limited(fuel)
	return &run{machine: m, w: w, actor: actor, fuel: fuel, left: fuel}
}
