package emit

import (
	"slices"

	"hackamore/api"
	"hackamore/code"
	"hackamore/ssa"
)

// maker makes the code of a function.
type maker struct {
	assembly
	tables *tables
	known  *known
	f      ssa.Func
	shapes []Shape
	homes  [][]int
	uses   []int
	out    [][]edge // of each block, in the order of To
	blocks []*label
}

// function returns the code of a function.
func (t *tables) function(k *known, f ssa.Func, shapes []Shape) code.Function {
	h, e := assign(f, shapes)
	mustFit(e == api.OK)
	uses, _ := ssa.Uses(f)
	m := &maker{assembly{classes: h.Classes}, t, k, f, shapes, h.Values, uses, make([][]edge, len(f.Blocks)), nil}
	for e := range edges(f) {
		m.out[e.from] = append(m.out[e.from], e)
	}
	for range f.Blocks {
		m.blocks = append(m.blocks, &label{})
	}
	for b, x := range f.Blocks {
		m.place(m.blocks[b])
		for i := range x.Ins {
			m.release()
			m.instruction(&x.Ins[i])
		}
		m.release()
		m.end(b)
	}
	return m.assembly.function(f.Name, len(f.Params))
}

// whole returns a register with the value that is in registers by its shape; what is not in one alone is put together in one that is spared.
func (m *maker) whole(s Shape, home []int) int {
	if len(s.Kids) == 0 {
		if s.Kind == 0 {
			return home[0]
		}
		r := m.spared(code.Any)
		m.put(code.Ins{Op: code.Box, A: r, B: home[0], C: s.Kind})
		return r
	}
	used := m.used
	var l []int
	for _, k := range s.Kids {
		n := len(Classes(k))
		l = append(l, m.whole(k, home[:n]))
		home = home[n:]
	}
	m.used = used
	r := m.spared(code.Any)
	m.listed(code.Ins{Op: code.Tuple, A: r, List: l}, nil)
	return r
}

// value returns a register that has a value.
func (m *maker) value(v int) int { return m.whole(m.shapes[v], m.homes[v]) }

func (m *maker) values(l []int) []int {
	var out []int
	for _, v := range l {
		out = append(out, m.value(v))
	}
	return out
}

// home returns the one register of a value that has no more than one.
func (m *maker) home(v int) int { return m.homes[v][0] }

// instruction makes the code of an instruction.
func (m *maker) instruction(x *ssa.Ins) {
	switch x.Op {
	case ssa.Phi: // made by the edges
	case ssa.Const:
		m.constant(x.Result, x.Lit)
	case ssa.Tuple:
		m.tuple(x)
	case ssa.Item:
		m.item(x)
	case ssa.Text:
		m.wide(code.Text, x.Result, m.tables.text(x.Text))
	case ssa.Make:
		op := code.Make
		if x.Flag {
			op = code.Stack
		}
		m.wide(op, x.Result, m.tables.entities[x.Text])
	case ssa.Get:
		m.put(code.Ins{Op: code.Get, A: m.home(x.Result), B: m.value(x.Args[0]), Index: []int{m.tables.text(x.Text)}})
	case ssa.Set, ssa.Is:
		m.ofTwo(x)
	case ssa.Fits:
		m.put(code.Ins{Op: code.Fits, A: m.home(x.Result), B: m.value(x.Args[0]), Index: []int{m.tables.typ(x.Type)}})
	case ssa.Spawn:
		m.listed(code.Ins{Op: code.Spawn, A: m.home(x.Result), Index: []int{m.tables.entities[x.Name], m.tables.text(x.Text)}, List: m.values(x.Args)}, nil)
	case ssa.Send:
		m.listed(code.Ins{Op: code.Send, Index: []int{m.tables.text(x.Text)}, List: m.values(x.Args)}, nil)
		m.constant(x.Result, api.Value{Kind: api.ValUnit, Name: "None"})
	default:
		m.call(x, nil)
	}
}

// wide puts an instruction with a D.
func (m *maker) wide(op, result, d int) {
	m.put(code.Ins{Op: op, A: m.home(result), B: d % 256, C: d / 256})
}

// constant makes a value that something uses.
func (m *maker) constant(result int, v api.Value) {
	if m.uses[result] > 0 {
		m.wide(code.Const, result, m.tables.value(v))
	}
}

// ofTwo makes a set or an is.
func (m *maker) ofTwo(x *ssa.Ins) {
	l := m.values(x.Args)
	i := code.Ins{Op: code.Same, A: m.home(x.Result), B: l[0], C: l[1]}
	if x.Op == ssa.Set {
		i.Op, i.Index = code.Set, []int{m.tables.text(x.Text)}
	}
	m.put(i)
}

// tuple moves the parts of a tuple that something uses to where it is.
func (m *maker) tuple(x *ssa.Ins) {
	if m.uses[x.Result] == 0 {
		return
	}
	var from []int
	for _, v := range x.Args {
		from = append(from, m.homes[v]...)
	}
	m.move(m.homes[x.Result], from)
}

// item moves a part of a tuple that is known; others are asked for when the code is run.
func (m *maker) item(x *ssa.Ins) {
	v := x.Args[0]
	kids := m.shapes[v].Kids
	if x.N >= len(kids) {
		m.put(code.Ins{Op: code.Item, A: m.home(x.Result), B: m.value(v), C: x.N})
		return
	}
	from := m.homes[v]
	for _, k := range kids[:x.N] {
		from = from[len(Classes(k)):]
	}
	m.move(m.homes[x.Result], from[:len(m.homes[x.Result])])
}

// move moves what is in registers to others, all at once.
func (m *maker) move(to, from []int) {
	for class := code.Num; class <= code.Any; class++ {
		var l []Move
		for i, r := range to {
			if m.classes[r] == class {
				l = append(l, Move{r, from[i]})
			}
		}
		const free = code.MaxRegisters // no register has this number
		moves, _ := Sequence(l, free)
		if slices.ContainsFunc(moves, func(x Move) bool { return x.To == free }) {
			r := m.spared(class)
			for i, x := range moves {
				if x.To == free {
					moves[i].To = r
				}
				if x.From == free {
					moves[i].From = r
				}
			}
		}
		for _, x := range moves {
			m.put(code.Ins{Op: code.Move, A: x.To, B: x.From})
		}
	}
}

// isArith reports whether a call, or a native, is arithmetic: of no other one the kind is known.
func (m *maker) isArith(x *ssa.Ins) bool {
	return (x.Op == ssa.Call || x.Op == ssa.Native) && m.shapes[x.Result].Kind != 0
}

// call makes a call, a direct or a native; it goes on at a label with an error, if there is one.
func (m *maker) call(x *ssa.Ins, raised *label) {
	i := code.Ins{A: m.home(x.Result)}
	switch {
	case m.isArith(x):
		a := m.known.arith(question{m.shapes[x.Args[0]].Kind, methodOf(x), m.shapes[x.Args[1]].Kind})
		i.Op, i.B, i.C, i.Index = code.Arith, m.home(x.Args[0]), m.home(x.Args[1]), []int{m.tables.text(a.name)}
		m.put(i)
		return
	case x.Op == ssa.Call:
		i.Op, i.Index = code.Call, []int{m.tables.selectors[x.Text]}
	case x.Op == ssa.Direct:
		i.Op, i.Index = code.Direct, []int{m.tables.functions[x.Text]}
	default:
		i.Op, i.Index = code.Native, []int{m.tables.text(x.Text)}
	}
	i.List = m.values(x.Args)
	m.listed(i, raised)
}

// end makes the code of the end of a block.
func (m *maker) end(b int) {
	x := m.f.Blocks[b].End
	switch x.Kind {
	case ssa.Jump:
		m.leave(m.out[b][0])
	case ssa.Branch:
		yes := m.wayOf(m.out[b][0])
		m.going(code.Branch, m.condition(x.Args[0]), yes)
		m.fork(b, 1, 0, yes)
	case ssa.Return:
		m.put(code.Ins{Op: code.Return, A: m.value(x.Args[0])})
	case ssa.Error:
		op := code.Stuck
		if m.f.Partial {
			op = code.Raise
		}
		m.put(code.Ins{Op: op})
	case ssa.Try:
		if m.isArith(&x.Call) { // it has no errors
			m.call(&x.Call, nil)
			m.leave(m.out[b][0])
			break
		}
		raised := m.wayOf(m.out[b][1])
		m.call(&x.Call, raised)
		m.fork(b, 0, 1, raised)
	default:
		m.put(code.Ins{Op: code.Stuck})
	}
}

// condition returns a register with the bits of a Bool.
func (m *maker) condition(v int) int {
	if s := m.shapes[v]; s.Kind == api.ValBool {
		return m.home(v)
	}
	from := m.value(v)
	r := m.spared(code.Num)
	m.put(code.Ins{Op: code.Unbox, A: r, B: from, C: api.ValBool})
	return r
}

// wayOf returns where the code of an edge will begin: at its block, if it has none of its own.
func (m *maker) wayOf(e edge) *label {
	for _, x := range phis(m.f.Blocks[e.to]) {
		v := x.Args[e.way]
		isThere := m.shapes[v].Kind == m.shapes[x.Result].Kind && slices.Equal(m.homes[v], m.homes[x.Result])
		if !isThere && m.uses[x.Result] > 0 {
			return &label{}
		}
	}
	return m.blocks[e.to]
}

// fork makes the code of the edge on which a block just goes on, and then of the other one, whose code begins at a label.
func (m *maker) fork(b, on, other int, begins *label) {
	if begins == m.blocks[m.out[b][other].to] {
		m.leave(m.out[b][on])
		return
	}
	m.pass(m.out[b][on])
	m.going(code.Jump, 0, m.blocks[m.out[b][on].to])
	m.place(begins)
	m.leave(m.out[b][other])
}

// leave makes the code of an edge behind which that of the next block follows.
func (m *maker) leave(e edge) {
	m.pass(e)
	if e.to != e.from+1 {
		m.going(code.Jump, 0, m.blocks[e.to])
	}
}

// pass gives the phis behind an edge their values, all at once.
func (m *maker) pass(e edge) {
	m.release()
	var to, from []int
	for _, x := range phis(m.f.Blocks[e.to]) {
		v := x.Args[e.way]
		if m.uses[x.Result] == 0 {
			continue
		}
		to = append(to, m.home(x.Result))
		if m.shapes[x.Result].Kind == 0 {
			from = append(from, m.value(v))
		} else {
			from = append(from, m.home(v))
		}
	}
	m.move(to, from)
}
