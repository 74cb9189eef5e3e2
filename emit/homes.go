package emit

import (
	"iter"
	"slices"

	"hackamore/api"
	"hackamore/code"
	"hackamore/ssa"
)

// edge is a way from a block to another one: the index of the other one in To, and which argument of its phis is for this way.
type edge struct{ from, index, to, way int }

// edges hands on the edges of a function.
func edges(f ssa.Func) iter.Seq[edge] {
	return func(yield func(edge) bool) {
		ways := make([]int, len(f.Blocks)) // how many have come to each block
		for b, x := range f.Blocks {
			for i, to := range x.End.To {
				if !yield(edge{b, i, to, ways[to]}) {
					return
				}
				ways[to]++
			}
		}
	}
}

// phis returns the phis of a block.
func phis(b ssa.Block) []ssa.Ins {
	n := 0
	for n < len(b.Ins) && b.Ins[n].Op == ssa.Phi {
		n++
	}
	return b.Ins[:n]
}

// values is a set of values, which can be gone through.
type values struct {
	list []int
	at   []int // the index of each value in the list, and 1 more; 0 for those that are not there
}

func (s *values) add(l ...int) {
	for _, v := range l {
		if s.at[v] == 0 {
			s.list = append(s.list, v)
			s.at[v] = len(s.list)
		}
	}
}

func (s *values) remove(v int) {
	at := s.at[v]
	if at == 0 {
		return
	}
	last := s.list[len(s.list)-1]
	s.list[at-1], s.at[last] = last, at
	s.list, s.at[v] = s.list[:len(s.list)-1], 0
}

// liveness is a function that is right, and what is needed at the beginnings of its blocks.
type liveness struct {
	ssa.Func
	live [][]int
	out  [][]edge // of each block, in the order of To
	size int      // how many values there are
}

func livenessOf(f ssa.Func) *liveness {
	live, _ := ssa.Live(f)
	l := &liveness{f, live, make([][]edge, len(f.Blocks)), count(f)}
	for e := range edges(f) {
		l.out[e.from] = append(l.out[e.from], e)
	}
	return l
}

// passed returns the arguments of phis for an edge.
func (f *liveness) passed(e edge) []int {
	var l []int
	for _, x := range phis(f.Blocks[e.to]) {
		l = append(l, x.Args[e.way])
	}
	return l
}

// meetings hands on values, each with others that it meets. The list is good only until the next one comes; it may have the value itself.
func (f *liveness) meetings() iter.Seq2[int, []int] {
	return func(yield func(int, []int) bool) {
		var params []int
		for v := range f.Params {
			params = append(params, v)
		}
		for _, v := range params {
			if !yield(v, slices.Concat(params, f.live[0])) {
				return
			}
		}
		needed := &values{at: make([]int, f.size)}
		for b := range f.Blocks {
			if !f.atBeginning(b, yield) || !f.within(b, needed, yield) {
				return
			}
		}
	}
}

// atBeginning hands on the phis of a block, and the Result of the try with which it ends; false, if no more is wanted.
func (f *liveness) atBeginning(b int, yield func(int, []int) bool) bool {
	there := slices.Clone(f.live[b])
	for _, x := range phis(f.Blocks[b]) {
		there = append(there, x.Result)
	}
	for _, x := range phis(f.Blocks[b]) {
		if !yield(x.Result, there) {
			return false
		}
	}
	end := f.Blocks[b].End
	if end.Kind != ssa.Try {
		return true
	}
	e := f.out[b][0]
	others := append(slices.Clone(f.live[e.to]), f.passed(e)...)
	for _, x := range phis(f.Blocks[e.to]) {
		others = append(others, x.Result)
	}
	return yield(end.Call.Result, others)
}

// within hands on what the instructions of a block make, with what is needed behind them, from the last one to the first; false, if no more is wanted. The set is empty behind it, too.
func (f *liveness) within(b int, needed *values, yield func(int, []int) bool) bool {
	x := f.Blocks[b]
	for _, e := range f.out[b] {
		needed.add(f.live[e.to]...)
		needed.add(f.passed(e)...)
	}
	needed.add(x.End.Args...)
	needed.add(x.End.Call.Args...)
	for _, y := range slices.Backward(x.Ins[len(phis(x)):]) {
		if !yield(y.Result, needed.list) {
			return false
		}
		needed.remove(y.Result)
		needed.add(y.Args...)
	}
	for len(needed.list) > 0 {
		needed.remove(needed.list[0])
	}
	return true
}

// isMade tells of each value whether it is a parameter, or an instruction makes it.
func (f *liveness) isMade() []bool {
	made := make([]bool, f.size)
	for v := range f.Params {
		made[v] = true
	}
	for x := range instructions(f.Func) {
		made[x.Result] = true
	}
	return made
}

// CheckHomes returns the error of registers for the values of a function.
func CheckHomes(p ssa.Program, f ssa.Func, h Homes) api.Errno {
	shapes, e := Shapes(p, f)
	if e != api.OK {
		return e
	}
	if len(h.Values) != len(shapes) || len(h.Classes) > code.MaxRegisters {
		return api.ErrSize
	}
	if slices.ContainsFunc(h.Classes, func(c int) bool { return c != code.Num && c != code.Any }) {
		return api.ErrArg
	}
	l := livenessOf(f)
	for v, isMade := range l.isMade() {
		var wanted []int
		if isMade {
			wanted = Classes(shapes[v])
		}
		isParam := v < len(f.Params)
		if !h.isRight(v, wanted) || isParam && h.Values[v][0] != v {
			return ErrHome
		}
	}
	for v, others := range l.meetings() {
		for _, w := range others {
			if v != w && h.isShared(v, w) {
				return ErrShare
			}
		}
	}
	return api.OK
}

// isRight reports whether a value has registers of some classes.
func (h Homes) isRight(v int, classes []int) bool {
	if len(h.Values[v]) != len(classes) {
		return false
	}
	for i, r := range h.Values[v] {
		if r < 0 || r >= len(h.Classes) || h.Classes[r] != classes[i] || slices.Contains(h.Values[v][:i], r) {
			return false
		}
	}
	return true
}

// isShared reports whether two values share a register.
func (h Homes) isShared(v, w int) bool {
	return slices.ContainsFunc(h.Values[v], func(r int) bool { return slices.Contains(h.Values[w], r) })
}

// pair is two values that meet, the lesser one first.
type pair struct{ a, b int }

// assigner gives registers to values.
type assigner struct {
	*liveness
	Homes
	shapes     []Shape
	neighbours [][]int // the values that each one meets
}

// Assign returns registers for the values of a function.
func Assign(p ssa.Program, f ssa.Func) (Homes, api.Errno) {
	shapes, e := Shapes(p, f)
	if e != api.OK {
		return Homes{}, e
	}
	return assign(f, shapes)
}

func assign(f ssa.Func, shapes []Shape) (Homes, api.Errno) {
	n := len(shapes)
	a := &assigner{livenessOf(f), Homes{Values: make([][]int, n)}, shapes, make([][]int, n)}
	if !a.findNeighbours() {
		return Homes{}, api.ErrLarge
	}
	for v := range f.Params {
		a.Values[v] = []int{v}
		a.Classes = append(a.Classes, code.Any)
	}
	order, _ := ssa.Order(f)
	for _, b := range order {
		for x := range instructions(ssa.Func{Blocks: f.Blocks[b : b+1]}) {
			if a.place(x.Result); len(a.Classes) > code.MaxRegisters {
				return Homes{}, api.ErrLarge
			}
		}
	}
	return a.Homes, api.OK
}

// findNeighbours finds what meets; false, if more values meet than there are registers for. (What a value meets is needed at one time, or, behind a try, at two.)
func (a *assigner) findNeighbours() bool {
	meets := map[pair]bool{}
	for v, others := range a.meetings() {
		if len(others) > 3*code.MaxRegisters {
			return false
		}
		for _, w := range others {
			p := pair{min(v, w), max(v, w)}
			if v == w || meets[p] {
				continue
			}
			meets[p] = true
			a.neighbours[v] = append(a.neighbours[v], w)
			a.neighbours[w] = append(a.neighbours[w], v)
		}
	}
	return true
}

// place gives a value registers that none of those has that it meets.
func (a *assigner) place(v int) {
	taken := map[int]bool{}
	for _, w := range a.neighbours[v] {
		for _, r := range a.Values[w] {
			taken[r] = true
		}
	}
	for _, class := range Classes(a.shapes[v]) {
		r := a.free(class, taken)
		a.Values[v] = append(a.Values[v], r)
		taken[r] = true
	}
}

// free returns the first register of a class that is not taken; a new one, if there is none.
func (a *assigner) free(class int, taken map[int]bool) int {
	for r, c := range a.Classes {
		if c == class && !taken[r] {
			return r
		}
	}
	a.Classes = append(a.Classes, class)
	return len(a.Classes) - 1
}
