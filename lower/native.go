package lower

import (
	"hackamore/api"
	"hackamore/num"
	"hackamore/ssa"
)

// Kinds of values, as far as they are certain, besides those of Bools and numbers.
const (
	unseen    = 0  // nothing was said yet
	uncertain = -1 // it may be anything
)

// intrinsic is a method of a number type, or of Bool, by the kind of its receiver.
type intrinsic struct {
	kind   int
	method string
}

// signature is what a method takes and returns, as kinds.
type signature struct {
	params []int
	result int
	typ    string
}

// intrinsics returns the methods that have no effect, never fail, and are given by the runtime in this program.
func (f *facts) intrinsics() map[intrinsic]signature {
	out := map[intrinsic]signature{}
	for _, typ := range append(num.Types(), "Bool") {
		methods, _ := num.Methods(typ)
		for _, m := range methods {
			own, _ := f.method(typ, m.Name)
			isOwn := hasBody(own) || own.Kind == api.Be
			if result := kindOf(m.Result); result != uncertain && !m.Partial && !isOwn {
				s := signature{nil, result, m.Result}
				for _, p := range m.Params {
					s.params = append(s.params, kindOf(p))
				}
				out[intrinsic{kindOf(typ), m.Name}] = s
			}
		}
	}
	return out
}

// kindOf returns the kind of a type's values.
func kindOf(typ string) int {
	if typ == "Bool" {
		return api.ValBool
	}
	if kind, e := num.Kind(typ); e == api.OK {
		return kind
	}
	return uncertain
}

// certain says which kinds values and variables certainly have.
type certain struct {
	known     map[intrinsic]signature
	values    []int
	variables map[string]int
}

// meet returns what is certain of what is one of two.
func meet(a, b int) int {
	switch {
	case a == unseen || a == b:
		return b
	case b == unseen:
		return a
	}
	return uncertain
}

// useNatives makes natives of the calls whose receivers and arguments are certainly numbers or Bools, and whose methods are intrinsics.
func (l *lowerer) useNatives() {
	c := &certain{l.known, make([]int, len(l.types)), map[string]int{}}
	for i := range len(l.method.Params) + 1 {
		c.values[i] = uncertain
	}
	for c.sweep(l.blocks) {
	}
	for b := range l.blocks {
		for i := range l.blocks[b].Ins {
			x := &l.blocks[b].Ins[i]
			if s, ok := c.signature(*x); ok {
				typ, _ := num.Name(c.values[x.Args[0]])
				if c.values[x.Args[0]] == api.ValBool {
					typ = "Bool"
				}
				x.Op, x.Text, x.Type = ssa.Native, typ+"."+x.Text, named(s.typ, api.Val)
			}
		}
	}
}

// sweep goes through all instructions once, and reports whether anything that was said is not so.
func (c *certain) sweep(blocks []ssa.Block) bool {
	changed := false
	say := func(of *int, kind int) {
		kind = meet(*of, kind)
		changed = changed || *of != kind
		*of = kind
	}
	for _, b := range blocks {
		for _, x := range b.Ins {
			if x.Op == ssa.Store {
				v := c.variables[x.Text]
				say(&v, c.values[x.Args[0]])
				c.variables[x.Text] = v
			}
			say(&c.values[x.Result], c.kind(x))
		}
		if b.End.Kind == ssa.Try {
			say(&c.values[b.End.Call.Result], uncertain)
		}
	}
	return changed
}

// kind returns the kind of what an instruction gives; unseen, if nothing was said of what it depends on, or it is no value.
func (c *certain) kind(x ssa.Ins) int {
	switch x.Op {
	case ssa.Const:
		if x.Lit.Kind == api.ValNone {
			return unseen
		}
		if num.Check(x.Lit) == api.OK {
			return x.Lit.Kind
		}
	case ssa.Is, ssa.Fits:
		return api.ValBool
	case ssa.Load:
		return c.variables[x.Text]
	case ssa.Call:
		for _, a := range x.Args {
			if c.values[a] == unseen {
				return unseen
			}
		}
		if s, ok := c.signature(x); ok {
			return s.result
		}
	}
	return uncertain
}

// signature returns that of a call, if it is one of an intrinsic.
func (c *certain) signature(x ssa.Ins) (signature, bool) {
	if x.Op != ssa.Call {
		return signature{}, false
	}
	s, ok := c.known[intrinsic{c.values[x.Args[0]], x.Text}]
	if !ok || len(s.params) != len(x.Args)-1 {
		return signature{}, false
	}
	for i, p := range s.params {
		if c.values[x.Args[i+1]] != p {
			return signature{}, false
		}
	}
	return s, true
}
