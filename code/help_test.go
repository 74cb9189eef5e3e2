package code_test

import (
	"slices"
	"strings"

	"hackamore/api"
	. "hackamore/code"
	"hackamore/internal/codes"
)

// table is that of the chapter: of each operation what A, B and C are, the index words, and what the list is. D stands in the place of B and C; n is a Num, a an Any, r one of both, k a kind, # any number, + how many registers the list has at least, ? whether it goes on with an error, - nothing.
const table = `
const r value
move r r -
box a n k
unbox n a k
tuple a +2 -
item a a #
text a text
make a entity
stack a entity
get a a - text
set a a a text
call a +1 ? selector
direct a +0 ? function
native a +1 ? text
spawn a +0 - entity text
send - +1 - text
same n a a
fits n a - type
jump - target
branch n target
return a - -
raise - - -
stuck - - -
arith n n n text
`

// layout is a line of the table.
type layout struct {
	name, a, b, c, d string
	index            []string
	least            int // of the list; -1 without one
}

func layouts() []layout {
	var l []layout
	for line := range strings.Lines(strings.TrimSpace(table)) {
		w := strings.Fields(line)
		x := layout{name: w[0], a: w[1], b: w[2], least: -1}
		if len(w[2]) > 2 {
			x.b, x.c, x.d, x.index = "d", "d", w[2], w[3:]
		} else {
			x.c, x.index = w[3], w[4:]
		}
		if n, ok := strings.CutPrefix(x.b, "+"); ok {
			x.b, x.least = "+", int(n[0]-'0')
		}
		l = append(l, x)
	}
	return l
}

// sound returns an instruction of an operation that is right, with a list of so many registers, if it has one.
func sound(op, list int) Ins {
	x := layouts()[op]
	i := Ins{Op: op, Raised: -1}
	if x.a != "-" {
		i.A = 1
	}
	if x.b != "-" && x.b != "+" {
		i.B = 2
	}
	if x.c != "-" && x.c != "?" {
		i.C = 3
	}
	for k := range x.index {
		i.Index = append(i.Index, 4+k)
	}
	if x.least >= 0 {
		for r := range max(list, x.least) {
			i.List = append(i.List, 10+r)
		}
		i.B = len(i.List)
	}
	return i
}

// wanted returns the error of the words of an instruction, as the chapter says it.
func wanted(i Ins) api.Errno {
	if i.Op < 0 || i.Op > 23 {
		return ErrWord
	}
	x := layouts()[i.Op]
	parts := map[string]int{}
	for k, p := range []string{x.a, x.b, x.c} {
		n := []int{i.A, i.B, i.C}[k]
		parts[p] = n
		if p == "-" && n != 0 || p == "?" && n != 0 && n != 1 {
			return ErrWord
		}
	}
	if len(i.Index) != len(x.index) || x.least < 0 && len(i.List) > 0 || x.least >= 0 && (len(i.List) != i.B || i.B < x.least || i.B > 60) {
		return ErrWord
	}
	raises := x.c == "?" && i.C == 1
	if !raises && i.Raised != -1 {
		return ErrWord
	}
	bytes := append([]int{i.A, i.B, i.C}, i.List...)
	words := slices.Clone(i.Index)
	if raises {
		words = append(words, i.Raised)
	}
	if slices.ContainsFunc(bytes, func(n int) bool { return n < 0 || n > 255 }) || slices.ContainsFunc(words, func(n int) bool { return n < 0 || n > 1<<31-1 }) {
		return api.ErrRange
	}
	return api.OK
}

func words(i Ins) []uint32 {
	l, e := Words(i)
	if e != api.OK {
		panic("words: error " + e.Error())
	}
	return l
}

// joined returns the words of instructions one behind the other.
func joined(l ...Ins) []uint32 {
	var out []uint32
	for _, i := range l {
		out = append(out, words(i)...)
	}
	return out
}

// program returns one with the tables of a program, and a function with two Anys, of which the first one is a parameter, and two Nums, and with some instructions.
func program(l ...Ins) Program {
	p := codes.Tables()
	p.Functions = []Function{{Name: "f", Params: 1, Classes: []int{Any, Any, Num, Num}, Words: joined(l...)}}
	return p
}

func ins(op, a, b, c int) Ins { return Ins{Op: op, A: a, B: b, C: c, Raised: -1} }

func indexed(i Ins, index ...int) Ins {
	i.Index = index
	return i
}

func listed(i Ins, list ...int) Ins {
	i.List, i.B = list, len(list)
	return i
}

func raising(i Ins, at int) Ins {
	i.C, i.Raised = 1, at
	return i
}

var giveBack = ins(Return, 0, 0, 0)
