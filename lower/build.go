package lower

import (
	"slices"

	"hackamore/api"
	"hackamore/ssa"
)

// Limits of layer 19, beyond which nothing has to be built.
const (
	maxBlocks = 400
	maxIns    = 4000
)

// tooLarge is what lowering leaves with, if a function becomes too large.
type tooLarge struct{}

// nowhere is the block of code that is never reached, and the value of what has none.
const nowhere = -1

// builder builds the blocks of a function: at is the block that is being filled; types are those of its values, as far as they are known.
type builder struct {
	blocks []ssa.Block
	at     int
	count  int
	types  []api.Type
}

// label is a block to which code may go; it is made when it first does.
type label struct{ block int }

func newLabel() *label { return &label{nowhere} }

func (b *builder) isDead() bool { return b.at == nowhere }

func (b *builder) more() {
	b.count++
	if b.count > maxIns || len(b.blocks) > maxBlocks {
		panic(tooLarge{})
	}
}

// value returns a new value with a type.
func (b *builder) value(t api.Type) int {
	b.types = append(b.types, t)
	return len(b.types) - 1
}

// ins puts an instruction behind the others, and returns its value.
func (b *builder) ins(x ssa.Ins) int {
	if b.isDead() {
		return nowhere
	}
	b.more()
	x.Result = b.value(x.Type)
	block := &b.blocks[b.at]
	block.Ins = append(block.Ins, x)
	return x.Result
}

func (b *builder) constant(v api.Value, t api.Type) int {
	return b.ins(ssa.Ins{Op: ssa.Const, Lit: v, Type: t})
}

// end ends the block that is being filled; what comes behind it is reached only by labels.
func (b *builder) end(x ssa.End) {
	if b.isDead() {
		return
	}
	b.more()
	b.blocks[b.at].End = x
	b.at = nowhere
}

// target returns the block of a label.
func (b *builder) target(l *label) int {
	if l.block == nowhere {
		l.block = len(b.blocks)
		b.blocks = append(b.blocks, ssa.Block{})
	}
	return l.block
}

func (b *builder) jump(l *label) {
	if !b.isDead() {
		b.end(ssa.End{Kind: ssa.Jump, To: []int{b.target(l)}})
	}
}

// enter goes on with the block of a label, if anything goes there.
func (b *builder) enter(l *label) { b.at = l.block }

// branch goes to one of two labels.
func (b *builder) branch(condition int, yes, no *label) {
	if !b.isDead() {
		to := []int{b.target(yes), b.target(no)}
		b.end(ssa.End{Kind: ssa.Branch, Args: []int{condition}, To: to})
	}
}

// try makes a call, and goes on behind it, but goes to a label if it ends with an error.
func (b *builder) try(call ssa.Ins, raised *label) int {
	if b.isDead() {
		return nowhere
	}
	next := newLabel()
	call.Result = b.value(call.Type)
	to := []int{b.target(next), b.target(raised)}
	b.end(ssa.End{Kind: ssa.Try, Call: call, To: to})
	b.enter(next)
	return call.Result
}

// used reports of each value whether it is used.
func (b *builder) used() []bool {
	used := make([]bool, len(b.types))
	for _, x := range b.blocks {
		for _, y := range x.Ins {
			for _, a := range y.Args {
				used[a] = true
			}
		}
		for _, a := range slices.Concat(x.End.Args, x.End.Call.Args) {
			used[a] = true
		}
	}
	return used
}

// early returns the variables that are used somewhere to where a way leads on which they were not stored, in the order in which they are met.
func (b *builder) early() []string {
	used := b.used()
	stored := b.storedAhead()
	var l []string
	known := map[string]bool{}
	for i, x := range b.blocks {
		own := map[string]bool{}
		for _, y := range x.Ins {
			isUse := y.Op == ssa.Load || y.Op == ssa.Store && used[y.Result]
			if isUse && !own[y.Text] && !stored[i][y.Text] && !known[y.Text] {
				known[y.Text] = true
				l = append(l, y.Text)
			}
			if y.Op == ssa.Store {
				own[y.Text] = true
			}
		}
	}
	return l
}

// storedAhead returns, for each block, the variables that were stored on all ways to its beginning.
func (b *builder) storedAhead() []map[string]bool {
	ahead := make([]map[string]bool, len(b.blocks)) // nil: not reached yet
	ahead[0] = map[string]bool{}
	for changed := true; changed; {
		changed = false
		for i, x := range b.blocks {
			if ahead[i] == nil {
				continue
			}
			for _, to := range x.End.To {
				changed = b.meet(ahead, i, to) || changed
			}
		}
	}
	return ahead
}

// meet takes away what was not stored at the end of a block ahead, and reports whether there was such a thing.
func (b *builder) meet(ahead []map[string]bool, from, to int) bool {
	out := map[string]bool{}
	for name := range ahead[from] {
		out[name] = true
	}
	for _, y := range b.blocks[from].Ins {
		if y.Op == ssa.Store {
			out[y.Text] = true
		}
	}
	if ahead[to] == nil {
		ahead[to] = out
		return true
	}
	n := len(ahead[to])
	for name := range ahead[to] {
		if !out[name] {
			delete(ahead[to], name)
		}
	}
	return len(ahead[to]) < n
}
