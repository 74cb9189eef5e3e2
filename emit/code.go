package emit

import (
	"hackamore/api"
	"hackamore/code"
	"hackamore/internal/registers"
)

// label is a place in code: the index of the instruction ahead of which it stands.
type label struct{ at int }

// draft is an instruction whose D, or where it goes on with an error, is filled in when all labels have their places.
type draft struct {
	code.Ins
	to *label
}

// assembly is code that is being made.
type assembly struct {
	l       []draft
	classes []int
	spare   [code.Any + 1][]int // by their class: registers that are no homes
	used    [code.Any + 1]int   // how many of these have a value now
}

// put puts an instruction behind the others.
func (a *assembly) put(x code.Ins) {
	x.Raised = -1
	a.l = append(a.l, draft{x, nil})
}

// listed puts one with a list behind the others; it goes on at a label with an error, if there is one.
func (a *assembly) listed(x code.Ins, raised *label) {
	x.B = len(x.List)
	if raised == nil {
		a.put(x)
		return
	}
	x.C = 1
	a.l = append(a.l, draft{x, raised})
}

// going puts a jump or a branch behind the others.
func (a *assembly) going(op, register int, to *label) {
	a.l = append(a.l, draft{code.Ins{Op: op, A: register, Raised: -1}, to})
}

func (a *assembly) place(to *label) { to.at = len(a.l) }

// spared returns a register that is no home, and has no value that is needed.
func (a *assembly) spared(class int) int {
	if a.used[class] == len(a.spare[class]) {
		a.spare[class] = append(a.spare[class], len(a.classes))
		a.classes = append(a.classes, class)
	}
	a.used[class]++
	return a.spare[class][a.used[class]-1]
}

// length returns how many words an instruction has.
func length(x code.Ins) int {
	n := 1 + len(x.Index) + (len(x.List)+3)/4
	if x.Raised >= 0 {
		n++
	}
	return n
}

// words fills in where instructions go, and returns the words of all of them.
func (a *assembly) words() []uint32 {
	isCall := func(x draft) bool { return x.to != nil && x.Op != code.Jump && x.Op != code.Branch }
	var starts []int
	at := 0
	for i := range a.l {
		x := &a.l[i]
		if isCall(*x) {
			x.Raised = 0
		}
		starts = append(starts, at)
		at += length(x.Ins)
	}
	starts = append(starts, at)
	var words []uint32
	for _, x := range a.l {
		switch {
		case isCall(x):
			x.Raised = starts[x.to.at]
		case x.to != nil:
			x.B, x.C = starts[x.to.at]%256, starts[x.to.at]/256
		}
		l, e := code.Words(x.Ins)
		mustFit(e == api.OK)
		words = append(words, l...)
	}
	return words
}

// function returns the function that the code is.
func (a *assembly) function(name string, params int) code.Function {
	mustFit(len(a.classes) <= code.MaxRegisters)
	words := a.words()
	mustFit(len(words) <= code.MaxWords)
	return code.Function{Name: name, Params: params, Classes: a.classes, Words: words, Maps: registers.Of(words).Kept(a.classes)}
}
