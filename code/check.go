package code

import (
	"slices"

	"hackamore/api"
	"hackamore/types"
)

// Limits of names.
const (
	maxText = 20000
	maxName = 300 // of the Name of a value
)

// areMore reports whether a list has more elements than it may have.
func areMore[T any](l []T, most int) bool { return len(l) > most }

// Check returns the error of a program, and where it is.
func Check(p Program) (Fault, api.Errno) {
	if e := checkTables(p); e != api.OK {
		return Fault{Function: -1}, e
	}
	for n, f := range p.Functions {
		c := &checker{Program: &p, f: &f}
		if at, e := c.check(); e != api.OK {
			return Fault{n, at}, e
		}
	}
	return Fault{}, api.OK
}

func checkTables(p Program) api.Errno {
	switch {
	case areMore(p.Functions, MaxFunctions) || areMore(p.Vector, MaxVector):
		return api.ErrSize
	case areMore(p.Texts, MaxTable) || areMore(p.Types, MaxTable) || areMore(p.Values, MaxTable) || areMore(p.Entities, MaxTable):
		return api.ErrSize
	case areMore(p.Selectors, MaxTable) || areMore(p.Offsets, MaxTable) || areMore(p.Colours, MaxTable):
		return api.ErrSize
	}
	for _, l := range [...][]string{p.Texts, p.Entities, p.Selectors} {
		if slices.ContainsFunc(l, func(s string) bool { return len(s) > maxText }) {
			return api.ErrForm
		}
	}
	if slices.ContainsFunc(p.Values, func(v api.Value) bool { return len(v.Kids) > 0 || len(v.Name) > maxName }) {
		return api.ErrForm
	}
	for _, t := range p.Types {
		if e := types.Check(t); e != api.OK {
			return e
		}
	}
	return api.OK
}

// checker checks a function of a program; begins tells of each word whether an instruction begins with it.
type checker struct {
	*Program
	f      *Function
	begins []bool
}

// check returns the error of the function, and the word where it is.
func (c *checker) check() (int, api.Errno) {
	f := c.f
	switch {
	case len(f.Classes) > MaxRegisters || len(f.Words) == 0 || len(f.Words) > MaxWords || len(f.Name) > maxText || len(f.Maps) > len(f.Words):
		return 0, api.ErrSize
	case slices.ContainsFunc(f.Classes, func(class int) bool { return class != Num && class != Any }):
		return 0, api.ErrForm
	case f.Params < 0 || f.Params > len(f.Classes) || slices.Contains(f.Classes[:f.Params], Num):
		return 0, api.ErrForm
	}
	l, at, e := All(f.Words)
	if e != api.OK {
		return at, e
	}
	c.begins = make([]bool, len(f.Words))
	safe := make([]bool, len(f.Words))
	for _, i := range l {
		c.begins[i.At], safe[i.At] = true, Safe(i)
	}
	for _, i := range l {
		if !c.isRight(i) {
			return i.At, ErrIndex
		}
	}
	ahead := -1
	for _, m := range f.Maps {
		if m.At <= ahead || !isOne(m.At, safe) || !c.areRising(m.Live) {
			return m.At, ErrIndex
		}
		ahead = m.At
	}
	return 0, api.OK
}

// isOne reports whether an index is there, and marked.
func isOne(n int, marked []bool) bool { return isOf(n, marked) && marked[n] }

// isOf reports whether a list has an element with an index.
func isOf[T any](n int, l []T) bool { return n >= 0 && n < len(l) }

// areRising reports whether registers are there, each above the one ahead.
func (c *checker) areRising(l []int) bool {
	ahead := -1
	for _, r := range l {
		if r <= ahead || !isOf(r, c.f.Classes) {
			return false
		}
		ahead = r
	}
	return true
}

// isRight reports whether all that an instruction names is there.
func (c *checker) isRight(i Ins) bool {
	r := rows[i.Op]
	b := i.B
	if r.c == high {
		b = i.wide()
	}
	if !c.has(r.a, i.A) || !c.has(r.b, b) || !c.has(r.c, i.C) {
		return false
	}
	for k, n := range i.Index {
		if !c.has(r.index[k], n) {
			return false
		}
	}
	for _, n := range i.List {
		if !c.has(anAny, n) {
			return false
		}
	}
	if i.Raised >= 0 && !c.has(aTarget, i.Raised) {
		return false
	}
	switch i.Op {
	case Move:
		return c.f.Classes[i.A] == c.f.Classes[i.B]
	case Const:
		return c.f.Classes[i.A] == Any || isKind(c.Values[b].Kind)
	}
	return true
}

// has reports whether there is what a part of an instruction names.
func (c *checker) has(p part, n int) bool {
	switch p {
	case aNum:
		return isOf(n, c.f.Classes) && c.f.Classes[n] == Num
	case anAny:
		return isOf(n, c.f.Classes) && c.f.Classes[n] == Any
	case aRegister:
		return isOf(n, c.f.Classes)
	case aKind:
		return isKind(n)
	case aValue:
		return isOf(n, c.Values)
	case aText:
		return isOf(n, c.Texts)
	case aType:
		return isOf(n, c.Types)
	case anEntity:
		return isOf(n, c.Entities)
	case aSelector:
		return isOf(n, c.Selectors)
	case aFunction:
		return isOf(n, c.Functions)
	case aTarget:
		return isOne(n, c.begins)
	}
	return true
}
