// Package codes makes programs of the register machine by chance, for the tests of the layers that have to do with them.
package codes

import (
	"slices"

	"hackamore/api"
	"hackamore/code"
	"hackamore/colour"
	"hackamore/types"
)

// Maker makes programs that code.Check takes; Pick returns a number from 0 to n - 1, by chance.
type Maker struct {
	Pick func(n int) int
	Tidy bool // all registers get values ahead of all else, and no function runs over its end
}

// Kinds of numbers.
const (
	Byte = api.ValNumber + 6  // U8
	Size = api.ValNumber + 11 // USize
)

// Tables returns a program without functions, whose tables have a little of everything.
func Tables() code.Program {
	named := func(name string, c int) api.Type { return types.Named(name, c, nil) }
	return code.Program{
		Texts:     []string{"f", "g", "U8.add", "U8.lt", "Bool.op_and", "create", "String.size", "string", "go", "nope", ""},
		Types:     []api.Type{named("U8", api.Val), named("Any", api.Tag), named("main.Cell", api.Ref)},
		Values:    []api.Value{{Kind: Byte, Lo: 7}, {Kind: api.ValBool, Lo: 1}, {Kind: api.ValBool}, {Kind: api.ValUnit, Name: "None"}, {}, {Kind: Size, Lo: 1}},
		Entities:  []string{"main.Cell", "main.Act", "Array[U8 val]", "main.Main"},
		Selectors: []string{"get", "add", "string", "m", "push"},
		Vector:    []colour.Slot{{Selector: 0, Method: 0}, {Selector: -1, Method: -1}, {Selector: 3, Method: 1}},
		Offsets:   []int{0, 1, 2, 3},
		Colours:   []int{0, -1, -1, 1, -1},
	}
}

// function is a function that is being made.
type function struct {
	*Maker
	p       *code.Program
	classes []int
	l       []code.Ins
}

// Program returns a program with a few functions of a few instructions.
func (m *Maker) Program(functions, instructions int) code.Program {
	p := Tables()
	n := 1 + m.Pick(functions)
	p.Functions = make([]code.Function, n)
	for i := range p.Functions {
		p.Functions[i] = m.function(&p, instructions)
	}
	return p
}

func (m *Maker) function(p *code.Program, instructions int) code.Function {
	f := code.Function{Name: []string{"main.Main.create", "main.Cell.get", "main.Act.go", "f"}[m.Pick(4)], Params: m.Pick(3)}
	for i := range f.Params + 2 + m.Pick(4) {
		class := code.Any
		if i >= f.Params && (i == f.Params || m.Pick(2) == 0) {
			class = code.Num
		}
		f.Classes = append(f.Classes, class)
	}
	f.Classes = append(f.Classes, code.Any)
	x := &function{m, p, f.Classes, nil}
	if m.Tidy {
		for r, class := range f.Classes[f.Params:] {
			x.l = append(x.l, code.Ins{Op: code.Const, A: f.Params + r, B: m.Pick(3), Raised: -1})
			if class == code.Any {
				x.l[len(x.l)-1].B = m.Pick(4)
			}
		}
	}
	for range 1 + m.Pick(instructions) {
		x.l = append(x.l, x.instruction(m.Pick(code.Ops)))
	}
	if m.Tidy || m.Pick(4) > 0 {
		x.l = append(x.l, code.Ins{Op: code.Return, A: x.any(), Raised: -1})
	}
	f.Words = x.words()
	f.Maps = x.maps(f.Words)
	return f
}

func (x *function) of(class int) int {
	for {
		if r := x.Pick(len(x.classes)); x.classes[r] == class {
			return r
		}
	}
}

func (x *function) num() int { return x.of(code.Num) }

func (x *function) any() int { return x.of(code.Any) }

func (x *function) list(least int) []int {
	var l []int
	for range least + x.Pick(3) {
		l = append(l, x.any())
	}
	return l
}

// instruction returns an instruction of an operation. Its target is 0: it is chosen later.
func (x *function) instruction(op int) code.Ins {
	i := code.Ins{Op: op, Raised: -1}
	text := func() []int { return []int{x.Pick(len(x.p.Texts))} }
	switch op {
	case code.Const:
		i.A, i.B = x.num(), x.Pick(3)
		if x.Pick(2) == 0 {
			i.A, i.B = x.any(), x.Pick(len(x.p.Values))
		}
	case code.Move:
		class := []int{code.Num, code.Any}[x.Pick(2)]
		i.A, i.B = x.of(class), x.of(class)
	case code.Box:
		i.A, i.B, i.C = x.any(), x.num(), []int{Byte, api.ValBool, 30}[x.Pick(3)]
	case code.Unbox:
		i.A, i.B, i.C = x.num(), x.any(), []int{Byte, api.ValBool, 30}[x.Pick(3)]
	case code.Item:
		i.A, i.B, i.C = x.any(), x.any(), x.Pick(3)
	case code.Text:
		i.A, i.B = x.any(), x.Pick(len(x.p.Texts))
	case code.Make, code.Stack:
		i.A, i.B = x.any(), x.Pick(len(x.p.Entities))
	case code.Get:
		i.A, i.B, i.Index = x.any(), x.any(), text()
	case code.Set:
		i.A, i.B, i.C, i.Index = x.any(), x.any(), x.any(), text()
	case code.Same:
		i.A, i.B, i.C = x.num(), x.any(), x.any()
	case code.Fits:
		i.A, i.B, i.Index = x.num(), x.any(), []int{x.Pick(len(x.p.Types))}
	case code.Branch:
		i.A = x.num()
	case code.Return:
		i.A = x.any()
	case code.Arith:
		i.A, i.B, i.C, i.Index = x.num(), x.num(), x.num(), []int{2 + x.Pick(3)}
	case code.Jump, code.Raise, code.Stuck:
	default:
		x.listed(&i)
	}
	return i
}

// listed fills in an instruction with a list.
func (x *function) listed(i *code.Ins) {
	text := x.Pick(len(x.p.Texts))
	i.A = x.any()
	switch i.Op {
	case code.Tuple:
		i.List = x.list(2)
	case code.Call:
		i.Index, i.List = []int{x.Pick(len(x.p.Selectors))}, x.list(1)
	case code.Direct:
		i.Index, i.List = []int{x.Pick(len(x.p.Functions))}, x.list(0)
	case code.Native:
		i.Index, i.List = []int{text}, x.list(1)
	case code.Spawn:
		i.Index, i.List = []int{x.Pick(len(x.p.Entities)), text}, x.list(0)
	case code.Send:
		i.A, i.Index, i.List = 0, []int{text}, x.list(1)
	}
	i.B = len(i.List)
	if i.Op >= code.Call && i.Op <= code.Native && x.Pick(2) == 0 {
		i.C, i.Raised = 1, 0
	}
}

// words chooses targets, and returns the words of all instructions.
func (x *function) words() []uint32 {
	var starts []int
	at := 0
	for _, i := range x.l {
		starts = append(starts, at)
		l, e := code.Words(i)
		if e != api.OK {
			panic("codes: error " + e.Error())
		}
		at += len(l)
	}
	var words []uint32
	for _, i := range x.l {
		to := starts[x.Pick(len(starts))]
		switch {
		case i.Op == code.Jump || i.Op == code.Branch:
			i.B, i.C = to%256, to/256
		case i.Raised >= 0:
			i.Raised = to
		}
		l, _ := code.Words(i)
		words = append(words, l...)
	}
	return words
}

// maps returns maps of some safe points, right or wrong.
func (x *function) maps(words []uint32) []code.Map {
	l, _, _ := code.All(words)
	var out []code.Map
	for _, i := range l {
		if !code.Safe(i) || x.Pick(2) == 0 {
			continue
		}
		m := code.Map{At: i.At}
		for r := range x.classes {
			if x.Pick(3) == 0 {
				m.Live = append(m.Live, r)
			}
		}
		out = append(out, m)
	}
	return out
}

// Garbage returns a program of any form, right or wrong: one by chance with parts of it replaced by others.
func (m *Maker) Garbage() code.Program {
	p := m.Program(2, 5)
	for range m.Pick(4) {
		m.spoil(&p)
	}
	return p
}

// strange returns a number that is seldom right.
func (m *Maker) strange() int {
	return []int{-1, 0, 1, 2, 3, 60, 99, 255, 256, 1 << 31, 1 << 40, 1<<63 - 1, -1 << 63}[m.Pick(13)]
}

func (m *Maker) spoil(p *code.Program) {
	f := &p.Functions[m.Pick(len(p.Functions))]
	switch m.Pick(9) {
	case 0:
		f.Params = m.strange()
	case 1:
		f.Classes = append(slices.Clone(f.Classes), m.strange())
	case 2:
		f.Classes = f.Classes[:m.Pick(len(f.Classes)+1)]
	case 3, 4:
		f.Words = slices.Clone(f.Words)
		if len(f.Words) > 0 {
			f.Words[m.Pick(len(f.Words))] ^= 1 << m.Pick(32)
		}
	case 5:
		f.Words = f.Words[:m.Pick(len(f.Words)+1)]
	case 6:
		f.Maps = append(slices.Clone(f.Maps), code.Map{At: m.strange(), Live: []int{m.strange()}})
	case 7:
		p.Values = append(slices.Clone(p.Values), api.Value{Kind: m.strange(), Lo: uint64(m.strange()), Kids: make([]api.Value, m.Pick(2))})
	default:
		p.Types = append(slices.Clone(p.Types), api.Type{Kind: m.strange(), Name: "A", Cap: m.Pick(7)})
	}
	n := m.strange()
	switch m.Pick(4) {
	case 0:
		p.Offsets = append(slices.Clone(p.Offsets), n)
	case 1:
		p.Colours = append(slices.Clone(p.Colours), n)
	case 2:
		p.Vector = append(slices.Clone(p.Vector), colour.Slot{Selector: n, Method: m.strange()})
	}
}
