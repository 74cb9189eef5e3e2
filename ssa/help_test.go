package ssa_test

import (
	"slices"
	"strconv"
	"strings"
	"testing"

	"hackamore/api"
	"hackamore/internal/flows"
	"hackamore/internal/sample"
	. "hackamore/ssa"
)

// ins reads an instruction: its result, its operation, and its Args.
func ins(op, result int, args ...int) Ins { return Ins{Op: op, Result: result, Args: args} }

func named(op, result int, text string, args ...int) Ins {
	return Ins{Op: op, Result: result, Text: text, Args: args}
}

func block(end End, l ...Ins) Block { return Block{l, end} }

func jump(to int) End { return End{Kind: Jump, To: []int{to}} }

func branch(v, a, b int) End { return End{Kind: Branch, Args: []int{v}, To: []int{a, b}} }

func giveBack(v int) End { return End{Kind: Return, Args: []int{v}} }

func try(call Ins, a, b int) End { return End{Kind: Try, Call: call, To: []int{a, b}} }

// fn returns a function with so many parameters.
func fn(params int, l ...Block) Func {
	return Func{Name: "f", Params: make([]api.Type, params), Blocks: l}
}

// diamond has the blocks 0 to 3 of the chapter's example.
func diamond() Func {
	return fn(1, block(branch(0, 1, 2)), block(jump(3)), block(jump(3)), block(giveBack(0)))
}

// chances hands on functions by chance.
func chances(n int, variables bool) func(yield func(int, Func) bool) {
	return func(yield func(int, Func) bool) {
		for seed := range n {
			pick := sample.Source(uint64(seed))
			m := &flows.Maker{Pick: pick, Variables: variables, Effects: seed%2 == 0}
			if !yield(seed, m.Func("f", pick(4), 2+pick(12), 1+pick(5))) {
				return
			}
		}
	}
}

func text(t *testing.T, f Func) string {
	s, e := Print([]Func{f})
	if e != api.OK {
		t.Fatalf("Print: error %d", e)
	}
	return s
}

func numbersText(l []int) string {
	var out []string
	for _, n := range l {
		out = append(out, strconv.Itoa(n))
	}
	return strings.Join(out, " ")
}

func listsText(l [][]int) string {
	var out []string
	for _, x := range l {
		out = append(out, numbersText(x))
	}
	return strings.Join(out, "; ")
}

// changed returns a copy of a function in which something is changed.
func changed(f Func, change func(f *Func)) Func {
	f.Params = slices.Clone(f.Params)
	f.Blocks = slices.Clone(f.Blocks)
	for i, b := range f.Blocks {
		b.Ins = slices.Clone(b.Ins)
		for k, x := range b.Ins {
			b.Ins[k].Args = slices.Clone(x.Args)
		}
		b.End.Args, b.End.To, b.End.Call.Args = slices.Clone(b.End.Args), slices.Clone(b.End.To), slices.Clone(b.End.Call.Args)
		f.Blocks[i] = b
	}
	change(&f)
	return f
}
