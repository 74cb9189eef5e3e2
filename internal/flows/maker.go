// Package flows makes functions of the intermediate form by chance, and plays them with numbers and objects, for the tests of the layers that have to do with it.
package flows

import (
	"slices"
	"strconv"

	"hackamore/api"
	"hackamore/ssa"
)

// Maker makes functions that are right; Pick returns a number from 0 to n - 1, by chance. The names of functions that directs may have are in Direct, with how many parameters each has.
type Maker struct {
	Pick      func(n int) int
	Variables bool // with loads and stores
	Effects   bool // with calls, objects and the like, and not with numbers alone
	Objects   bool // mostly with objects
	Direct    map[string]int
}

// Blocks returns blocks with ends by chance, all of which are reached, without instructions.
func (m *Maker) Blocks(n int) []ssa.Block {
	l := make([]ssa.Block, 1+m.Pick(n))
	target := func() int { return 1 + m.Pick(len(l)-1) }
	for i := range l {
		switch kind := m.Pick(8); {
		case len(l) == 1 || kind == 0:
			l[i].End = ssa.End{Kind: ssa.Return, Args: []int{0}}
		case kind < 4:
			l[i].End = ssa.End{Kind: ssa.Jump, To: []int{target()}}
		case kind == 4 && m.Effects:
			l[i].End = ssa.End{Kind: []int{ssa.Error, ssa.Stuck}[m.Pick(2)]}
		default:
			l[i].End = ssa.End{Kind: ssa.Branch, Args: []int{0}, To: []int{target(), target()}}
		}
	}
	if m.Effects {
		l = m.tries(l)
	}
	return reached(l)
}

// tries makes tries of some branches: each goes first to a new block, to which nothing else goes.
func (m *Maker) tries(l []ssa.Block) []ssa.Block {
	for i := range l {
		if l[i].End.Kind != ssa.Branch || m.Pick(3) > 0 {
			continue
		}
		to := l[i].End.To
		l[i].End = ssa.End{Kind: ssa.Try, To: []int{len(l), to[1]}}
		l = append(l, ssa.Block{End: ssa.End{Kind: ssa.Jump, To: to[:1]}})
	}
	return l
}

// reached returns the blocks that are reached.
func reached(l []ssa.Block) []ssa.Block {
	seen := make([]bool, len(l))
	var walk func(b int)
	walk = func(b int) {
		if !seen[b] {
			seen[b] = true
			for _, to := range l[b].End.To {
				walk(to)
			}
		}
	}
	walk(0)
	number, n := make([]int, len(l)), 0
	for b := range l {
		number[b] = n
		if seen[b] {
			n++
		}
	}
	var out []ssa.Block
	for b, x := range l {
		if !seen[b] {
			continue
		}
		x.End.To = slices.Clone(x.End.To)
		for i, to := range x.End.To {
			x.End.To[i] = number[to]
		}
		out = append(out, x)
	}
	return out
}

// Preds returns the blocks ahead of each block.
func Preds(l []ssa.Block) [][]int {
	out := make([][]int, len(l))
	for b, x := range l {
		for _, to := range x.End.To {
			out[to] = append(out[to], b)
		}
	}
	return out
}

// Reaches returns the blocks that are reached from one, if it is not the one that is left out, without passing that.
func Reaches(l []ssa.Block, from, without int) []bool {
	seen := make([]bool, len(l))
	work := []int{from}
	for len(work) > 0 {
		b := work[0]
		work = work[1:]
		if b == without || seen[b] {
			continue
		}
		seen[b] = true
		work = append(work, l[b].End.To...)
	}
	return seen
}

// Dominates reports whether each way to a block goes through another one, by leaving that out.
func Dominates(l []ssa.Block, a, b int) bool { return a == b || !Reaches(l, 0, a)[b] }

// filler fills the blocks of a function.
type filler struct {
	*Maker
	f     *ssa.Func
	preds [][]int
	made  [][]int // by the instructions of each block
	tried []int   // by the try ahead of each block, -1
	isNew map[int]bool
	above [][]int // the blocks that dominate each one, but itself
}

// Func returns a function with a name, at most so many parameters and blocks, and a few instructions in each block.
func (m *Maker) Func(name string, params, blocks, instructions int) ssa.Func {
	f := ssa.Func{Name: name, Blocks: m.Blocks(blocks), Partial: m.Pick(3) == 0}
	for range params {
		f.Params = append(f.Params, Number)
	}
	f.Result = Number
	x := &filler{Maker: m, f: &f, preds: Preds(f.Blocks), made: make([][]int, len(f.Blocks)), isNew: map[int]bool{}, tried: slices.Repeat([]int{-1}, len(f.Blocks)), above: make([][]int, len(f.Blocks))}
	for b := range f.Blocks {
		for a := range f.Blocks {
			if a != b && Dominates(f.Blocks, a, b) {
				x.above[b] = append(x.above[b], a)
			}
		}
	}
	x.choose(params, instructions)
	for b := range f.Blocks {
		x.fill(b)
	}
	return f
}

// Number is the type U8 val.
var Number = api.Type{Kind: api.TypeName, Name: "U8", Cap: api.Val}

// choose chooses the instructions of all blocks, and the values that they make.
func (x *filler) choose(params, instructions int) {
	next := params
	fresh := func() int {
		next += 1 + x.Pick(2)*x.Pick(3)
		return next - 1
	}
	for b := range x.f.Blocks {
		block := &x.f.Blocks[b]
		phis := 0
		if b > 0 {
			phis = x.Pick(3)
		}
		for i := range phis + x.Pick(instructions+1) {
			y := ssa.Ins{Op: ssa.Phi, Type: Number}
			if i >= phis {
				y = x.instruction()
			}
			y.Result = fresh()
			x.isNew[y.Result] = y.Op == ssa.Make
			x.made[b] = append(x.made[b], y.Result)
			block.Ins = append(block.Ins, y)
		}
		if b == 0 {
			x.first(block, fresh)
		}
		if block.End.Kind == ssa.Try {
			block.End.Call = x.call()
			block.End.Call.Result = fresh()
			x.tried[block.End.To[0]] = block.End.Call.Result
		}
	}
}

// unused is in the place of a value that is not to be used.
const unused = -1

// first puts a value ahead of all others, and stores of most variables.
func (x *filler) first(block *ssa.Block, fresh func() int) {
	v := fresh()
	ahead := []ssa.Ins{{Op: ssa.Const, Result: v, Type: Number, Lit: number(7)}}
	for _, name := range variables() {
		if x.Variables && x.Pick(8) > 0 {
			ahead = append(ahead, ssa.Ins{Op: ssa.Store, Result: fresh(), Text: name, Type: Number})
		}
	}
	l := slices.Repeat([]int{unused}, len(ahead)) // what a first store returns is not used
	l[0] = v
	x.made[0] = append(l, x.made[0]...)
	block.Ins = append(ahead, block.Ins...)
}

func variables() []string { return []string{"a", "b", "c"} }

func number(n int) api.Value { return api.Value{Kind: api.ValNumber + 6, Lo: uint64(n)} }

// Boolean returns a Bool.
func Boolean(b bool) api.Value {
	v := api.Value{Kind: api.ValBool}
	if b {
		v.Lo = 1
	}
	return v
}

// instruction returns an instruction that is no phi, with as many Args as it has, all 0.
func (x *filler) instruction() ssa.Ins {
	pick := x.Pick
	field := []string{"f", "g"}[pick(2)]
	if x.Objects && pick(2) == 0 {
		return []ssa.Ins{{Op: ssa.Make, Text: "E"}, {Op: ssa.Get, Text: field, Args: make([]int, 1)}, {Op: ssa.Set, Text: field, Args: make([]int, 2)}}[pick(3)]
	}
	switch n := pick(34); {
	case n < 6:
		return ssa.Ins{Op: ssa.Const, Lit: number(pick(4)), Type: Number}
	case n < 8:
		return ssa.Ins{Op: ssa.Const, Lit: Boolean(pick(2) == 0)}
	case n < 14:
		return ssa.Ins{Op: ssa.Native, Text: "U8." + []string{"add", "sub", "eq", "lt", "add_partial", "nope"}[pick(6)], Args: make([]int, 2), Type: Number}
	case n < 15:
		return ssa.Ins{Op: ssa.Tuple, Args: make([]int, 2+pick(2))}
	case n < 17:
		return ssa.Ins{Op: ssa.Item, Args: make([]int, 1), N: pick(3)}
	case n < 18:
		return ssa.Ins{Op: ssa.Is, Args: make([]int, 2)}
	case n < 19:
		return ssa.Ins{Op: ssa.Fits, Args: make([]int, 1), Type: Number}
	case x.Variables && n < 22:
		return ssa.Ins{Op: ssa.Load, Text: x.variable(), Type: Number}
	case x.Variables && n < 25:
		return ssa.Ins{Op: ssa.Store, Text: x.variable(), Args: make([]int, 1), Type: Number}
	case !x.Effects:
		return ssa.Ins{Op: ssa.Native, Text: "U8.mul", Args: make([]int, 2), Type: Number}
	case n < 22:
		return ssa.Ins{Op: ssa.Make, Text: "E"}
	case n < 24:
		return ssa.Ins{Op: ssa.Get, Text: field, Args: make([]int, 1)}
	case n < 26:
		return ssa.Ins{Op: ssa.Set, Text: field, Args: make([]int, 2)}
	case n < 27:
		return ssa.Ins{Op: ssa.Text, Text: field}
	case n < 28:
		return []ssa.Ins{{Op: ssa.Send, Text: "go", Args: make([]int, 1)}, {Op: ssa.Spawn, Name: "A", Text: "create"}}[pick(2)]
	}
	return x.call()
}

func (x *filler) variable() string { return variables()[x.Pick(3)] }

// call returns a call, or a direct.
func (x *filler) call() ssa.Ins {
	var names []string
	for name := range x.Direct {
		names = append(names, name)
	}
	slices.Sort(names)
	if len(names) == 0 || x.Pick(2) == 0 {
		return ssa.Ins{Op: ssa.Call, Text: "m" + strconv.Itoa(x.Pick(3)), Args: make([]int, 1+x.Pick(2)), Type: Number}
	}
	name := names[x.Pick(len(names))]
	return ssa.Ins{Op: ssa.Direct, Text: name, Args: make([]int, x.Direct[name]), Type: Number}
}

// there returns the values that are there in a block behind so many of its instructions.
func (x *filler) there(b, n int) []int {
	var l []int
	for i := range x.f.Params {
		l = append(l, i)
	}
	for _, a := range append(slices.Clone(x.above[b]), b) {
		if x.tried[a] >= 0 {
			l = append(l, x.tried[a])
		}
		if a != b {
			l = append(l, x.made[a]...)
		}
	}
	l = append(l, x.made[b][:n]...)
	return slices.DeleteFunc(l, func(v int) bool { return v == unused })
}

// one returns one of some values; the last ones are more likely.
func (x *filler) one(l []int) int {
	if len(l) == 0 {
		return 0
	}
	if x.Pick(2) == 0 {
		l = l[len(l)-min(len(l), 3):]
	}
	v := l[x.Pick(len(l))]
	if x.isNew[v] && x.Pick(5) > 0 { // objects seldom leave the function
		return l[0]
	}
	return v
}

// object returns one of the objects among some values, mostly, and otherwise another value.
func (x *filler) object(l []int, other int) int {
	for _, v := range l {
		if x.isNew[v] && x.Pick(3) > 0 {
			return v
		}
	}
	return other
}

// fill chooses the Args of a block.
func (x *filler) fill(b int) {
	block := &x.f.Blocks[b]
	for i := range block.Ins {
		y := &block.Ins[i]
		if y.Op == ssa.Phi {
			for _, p := range x.preds[b] {
				y.Args = append(y.Args, x.one(x.there(p, len(x.made[p]))))
			}
			continue
		}
		if y.Op == ssa.Store && b == 0 && len(y.Args) == 0 {
			y.Args = []int{0}
		}
		for k := range y.Args {
			y.Args[k] = x.one(x.there(b, i))
		}
		if y.Op == ssa.Get || y.Op == ssa.Set {
			y.Args[0] = x.object(x.there(b, i), y.Args[0])
		}
	}
	for _, l := range [2][]int{block.End.Args, block.End.Call.Args} {
		for k := range l {
			l[k] = x.one(x.there(b, len(block.Ins)))
		}
	}
}
