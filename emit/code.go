package emit

import (
	"hackamore/api"
	"hackamore/code"
	"hackamore/internal/registers"
)

// label is a place in code: the index of the instruction ahead of which it stands.
type label struct{ at int }

// draft is an instruction whose D, or where it goes on with an error, is filled in when all labels have their places.
type draft struct {
	code.Ins
	to *label
}

// assembly is code that is being made; size is how many words it has.
type assembly struct {
	l       []draft
	size    int
	classes []int
	spare   [code.Any + 1][]int // by their class: registers that are no homes
	used    [code.Any + 1]int   // how many of these have a value now
}

// add puts a draft behind the others.
func (a *assembly) add(x draft) {
	a.size += length(x.Ins)
	mustFit(a.size <= code.MaxWords)
	a.l = append(a.l, x)
}

// put puts an instruction behind the others.
func (a *assembly) put(x code.Ins) {
	x.Raised = -1
	a.add(draft{x, nil})
}

// listed puts one with a list behind the others; it goes on at a label with an error, if there is one.
func (a *assembly) listed(x code.Ins, raised *label) {
	x.B = len(x.List)
	if raised == nil {
		a.put(x)
		return
	}
	x.C, x.Raised = 1, 0
	a.add(draft{x, raised})
}

// going puts a jump or a branch behind the others.
func (a *assembly) going(op, register int, to *label) {
	a.add(draft{code.Ins{Op: op, A: register, Raised: -1}, to})
}

func (a *assembly) place(to *label) { to.at = len(a.l) }

// release says that no register but homes has a value that is needed.
func (a *assembly) release() { a.used = [len(a.used)]int{} }

// spared returns a register that is no home, and has no value that is needed.
func (a *assembly) spared(class int) int {
	if a.used[class] == len(a.spare[class]) {
		a.spare[class] = append(a.spare[class], len(a.classes))
		a.classes = append(a.classes, class)
	}
	a.used[class]++
	return a.spare[class][a.used[class]-1]
}

// length returns how many words an instruction has.
func length(x code.Ins) int {
	n := 1 + len(x.Index) + (len(x.List)+3)/4
	if x.Raised >= 0 {
		n++
	}
	return n
}

// words fills in where instructions go, and returns the words of all of them.
func (a *assembly) words() []uint32 {
	starts := []int{0}
	for i, x := range a.l {
		starts = append(starts, starts[i]+length(x.Ins))
	}
	var words []uint32
	for _, x := range a.l {
		switch {
		case x.to == nil:
		case x.Op == code.Jump || x.Op == code.Branch:
			x.B, x.C = starts[x.to.at]%256, starts[x.to.at]/256
		default:
			x.Raised = starts[x.to.at]
		}
		l, e := code.Words(x.Ins)
		mustFit(e == api.OK)
		words = append(words, l...)
	}
	return words
}

// function returns the function that the code is.
func (a *assembly) function(name string, params int) code.Function {
	words := a.words()
	return code.Function{Name: name, Params: params, Classes: a.classes, Words: words, Maps: registers.Of(words).Kept(a.classes)}
}
