package emit

import (
	"iter"
	"slices"
	"strings"

	"hackamore/api"
	"hackamore/code"
	"hackamore/num"
	"hackamore/ssa"
)

// instructions hands on the instructions of a function, with the Calls of tries, block by block.
func instructions(f ssa.Func) iter.Seq[*ssa.Ins] {
	return func(yield func(*ssa.Ins) bool) {
		for b := range f.Blocks {
			x := &f.Blocks[b]
			for i := range x.Ins {
				if !yield(&x.Ins[i]) {
					return
				}
			}
			if x.End.Kind == ssa.Try && !yield(&x.End.Call) {
				return
			}
		}
	}
}

// count returns the greatest value that there is, and 1 more.
func count(f ssa.Func) int {
	n := len(f.Params)
	for x := range instructions(f) {
		n = max(n, x.Result+1)
	}
	return n
}

// isKind reports whether a number is the kind of Bools or of numbers.
func isKind(n int) bool {
	_, e := num.Name(n)
	return n == api.ValBool || e == api.OK
}

// Classes returns the classes of the registers that a value of a shape needs.
func Classes(s Shape) []int {
	var l []int
	var walk func(s Shape)
	walk = func(s Shape) {
		switch {
		case len(s.Kids) > 0:
			for _, k := range s.Kids {
				walk(k)
			}
		case isKind(s.Kind):
			l = append(l, code.Num)
		default:
			l = append(l, code.Any)
		}
	}
	walk(s)
	return l
}

// question is a call of a method of numbers.
type question struct {
	kind   int
	method string
	other  int
}

// answer is the arithmetic that a call is.
type answer struct {
	name   string
	result int
	ok     bool
}

// known is what a program tells: its functions. It keeps the answers to what was asked.
type known struct {
	functions map[string]bool
	answers   map[question]answer
}

func knownOf(p ssa.Program) *known {
	k := &known{map[string]bool{}, map[question]answer{}}
	for _, f := range p.Funcs {
		k.functions[f.Name] = true
	}
	return k
}

// typeName returns the name of the type with a kind; none for others.
func typeName(kind int) string {
	if kind == api.ValBool {
		return "Bool"
	}
	name, _ := num.Name(kind)
	return name
}

// kindOf returns the kind of a type's values; 0 for others.
func kindOf(name string) int {
	if name == "Bool" {
		return api.ValBool
	}
	kind, _ := num.Kind(name)
	return kind
}

// arith returns the arithmetic that a call is.
func (k *known) arith(q question) answer {
	a, ok := k.answers[q]
	if !ok {
		a = k.find(q)
		k.answers[q] = a
	}
	return a
}

func (k *known) find(q question) answer {
	typ := typeName(q.kind)
	name := typ + "." + q.method
	l, _ := num.Methods(typ)
	i := slices.IndexFunc(l, func(s num.Signature) bool { return s.Name == q.method && !s.Partial && len(s.Params) == 1 })
	if i < 0 || k.functions[name] {
		return answer{}
	}
	param, result := kindOf(l[i].Params[0]), kindOf(l[i].Result)
	if param == 0 || result == 0 || param != q.other {
		return answer{}
	}
	return answer{name, result, true}
}

// Arith returns the name of the arithmetic that a call of a method of numbers is, and the kind of its result; false if it is none.
func Arith(p ssa.Program, kind int, method string, other int) (name string, result int, ok bool) {
	a := knownOf(p).find(question{kind, method, other})
	return a.name, a.result, a.ok
}

// unseen is the kind of a value of which nothing was said yet.
const unseen = -1

// shaper finds shapes. Its values are told by numbers: parts are those of the tuples, is says which value the item of a tuple just is, kinds are those of all others, as long as nothing speaks against them.
type shaper struct {
	*known
	parts [][]int
	is    []int
	kinds []int
	sizes []int // how many registers each value needs
}

// maxSize is how many registers a shape may need.
const maxSize = 64

// Shapes returns the shapes of the values of a function.
func Shapes(p ssa.Program, f ssa.Func) ([]Shape, api.Errno) { return knownOf(p).shapes(f) }

func (k *known) shapes(f ssa.Func) ([]Shape, api.Errno) {
	order, e := ssa.Order(f)
	if e != api.OK {
		return nil, e
	}
	for x := range instructions(f) {
		if x.Op == ssa.Load || x.Op == ssa.Store {
			return nil, ErrVar
		}
	}
	n := count(f)
	s := &shaper{k, make([][]int, n), make([]int, n), make([]int, n), slices.Repeat([]int{1}, n)}
	for v := range n {
		s.is[v] = v
	}
	var ins []*ssa.Ins // in an order in which what has a value comes ahead of what uses it, but for phis
	for _, b := range order {
		for x := range instructions(ssa.Func{Blocks: f.Blocks[b : b+1]}) {
			ins = append(ins, x)
			s.kinds[x.Result] = unseen
		}
	}
	for _, x := range ins {
		if !s.divide(x) {
			return nil, api.ErrSize
		}
	}
	s.settle(ins)
	out := make([]Shape, n)
	for v := range out {
		out[v] = s.shape(v)
	}
	return out, api.OK
}

// divide finds the parts of a tuple, and the part that an item is; false, if it is too large.
func (s *shaper) divide(x *ssa.Ins) bool {
	switch x.Op {
	case ssa.Tuple:
		size := 0
		for _, a := range x.Args {
			s.parts[x.Result] = append(s.parts[x.Result], s.is[a])
			size += s.sizes[s.is[a]]
		}
		s.sizes[x.Result] = size
		return size <= maxSize
	case ssa.Item:
		if l := s.parts[s.is[x.Args[0]]]; x.N < len(l) {
			s.is[x.Result] = l[x.N]
		}
	}
	return true
}

// settle sweeps over the instructions until no kind changes any more. (That of an item that just is another value plays no part.)
func (s *shaper) settle(ins []*ssa.Ins) {
sweeps:
	for {
		changed := false
		for _, x := range ins {
			kind := s.kind(x)
			changed = changed || kind != s.kinds[x.Result]
			s.kinds[x.Result] = kind
		}
		if !changed {
			break sweeps
		}
	}
}

// kindAt returns the kind of a value, as far as it was said; a tuple has none.
func (s *shaper) kindAt(v int) int { return s.kinds[s.is[v]] }

// kind returns the kind of what an instruction makes.
func (s *shaper) kind(x *ssa.Ins) int {
	switch x.Op {
	case ssa.Const:
		if num.Check(x.Lit) == api.OK {
			return x.Lit.Kind
		}
	case ssa.Is, ssa.Fits:
		return api.ValBool
	case ssa.Phi:
		return s.meet(x.Args)
	case ssa.Call, ssa.Native:
		return s.called(x)
	}
	return 0
}

// meet returns the kind that all values have of which anything was said.
func (s *shaper) meet(values []int) int {
	kind := unseen
	for _, v := range values {
		k := s.kindAt(v)
		switch {
		case k == unseen || k == kind:
		case kind == unseen:
			kind = k
		default:
			return 0
		}
	}
	return kind
}

// called returns the kind of what a call, or a native, makes.
func (s *shaper) called(x *ssa.Ins) int {
	if len(x.Args) != 2 {
		return 0
	}
	return s.arith(question{s.kindAt(x.Args[0]), methodOf(x), s.kindAt(x.Args[1])}).result
}

// methodOf returns the method of a call, or of a native.
func methodOf(x *ssa.Ins) string {
	if x.Op == ssa.Native {
		return x.Text[strings.LastIndexByte(x.Text, '.')+1:]
	}
	return x.Text
}

// shape returns the shape of a value.
func (s *shaper) shape(v int) Shape {
	v = s.is[v]
	if s.parts[v] == nil {
		return Shape{Kind: max(0, s.kinds[v])}
	}
	var out Shape
	for _, part := range s.parts[v] {
		out.Kids = append(out.Kids, s.shape(part))
	}
	return out
}
