// Package registers has sets of registers, and finds where the code of a function leads, and which registers it needs. Who makes code asks it, and who verifies code.
package registers

import (
	"iter"
	"math/bits"
	"slices"

	"hackamore/code"
)

// Set is a set of registers.
type Set [4]uint64

// Has reports whether a register is in the set.
func (s *Set) Has(r int) bool { return s[r/64]>>(r%64)&1 != 0 }

// Add puts a register into the set.
func (s *Set) Add(r int) { s[r/64] |= 1 << (r % 64) }

// Remove takes a register out of the set.
func (s *Set) Remove(r int) { s[r/64] &^= 1 << (r % 64) }

// Join puts all registers of another set into the set.
func (s *Set) Join(other Set) {
	for i := range s {
		s[i] |= other[i]
	}
}

// Meet keeps only the registers that are in another set, too.
func (s *Set) Meet(other Set) {
	for i := range s {
		s[i] &= other[i]
	}
}

// List returns the registers of the set, ascending.
func (s *Set) List() []int {
	var l []int
	for i, word := range s {
		for ; word != 0; word &= word - 1 {
			l = append(l, i*64+bits.TrailingZeros64(word))
		}
	}
	return l
}

// way is where an instruction can lead, and whether it has certainly written its register then: where it goes on with an error it has not.
type way struct {
	to    int
	wrote bool
}

// Flow is the code of a function that code.Check takes: its instructions, by their indices, and which of them are reached. What is said of registers holds for functions that do not run over their end.
type Flow struct {
	Ins     []code.Ins
	Reached []bool
	ways    [][]way
	from    [][]int // the reached instructions that lead to each one, and to the end
}

// Of returns the flow of words.
func Of(words []uint32) *Flow {
	l, _, _ := code.All(words)
	places := make([]int, len(words)+1) // of the instruction that begins with a word
	for i, x := range l {
		places[x.At] = i
	}
	places[len(words)] = len(l)
	f := &Flow{l, make([]bool, len(l)), make([][]way, len(l)), make([][]int, len(l)+1)}
	for i, x := range l {
		for _, at := range code.Next(x) {
			f.ways[i] = append(f.ways[i], way{places[at], at != x.Raised})
		}
	}
	f.reach()
	return f
}

// reach finds the instructions that are reached.
func (f *Flow) reach() {
	work := []int{0}
	for len(work) > 0 {
		i := work[len(work)-1]
		work = work[:len(work)-1]
		if i == len(f.Ins) || f.Reached[i] {
			continue
		}
		f.Reached[i] = true
		for to := range f.Ways(i) {
			f.from[to] = append(f.from[to], i)
			work = append(work, to)
		}
	}
}

// Ways hands on where the ways from an instruction lead, and whether it has written its register on this way. Behind the last instruction is the end.
func (f *Flow) Ways(i int) iter.Seq2[int, bool] {
	return func(yield func(int, bool) bool) {
		for _, w := range f.ways[i] {
			if !yield(w.to, w.wrote) {
				return
			}
		}
	}
}

// Values returns the registers that have values ahead of each instruction that is reached: those that have them on all ways, where the first ones have them ahead of all else.
func (f *Flow) Values(all, first Set) []Set {
	ahead := slices.Repeat([]Set{all}, len(f.Ins))
	ahead[0] = first
	settle(f.Reached, func(i int, again func(int)) {
		_, writes := code.Uses(f.Ins[i])
		for to, wrote := range f.Ways(i) {
			behind := ahead[i]
			if wrote && writes >= 0 {
				behind.Add(writes)
			}
			behind.Meet(ahead[to])
			if behind != ahead[to] {
				ahead[to] = behind
				again(to)
			}
		}
	})
	return ahead
}

// Needed returns the registers that are needed ahead of each instruction that is reached.
func (f *Flow) Needed() []Set {
	last := len(f.Ins) - 1
	needed := make([]Set, len(f.Ins))
	reached := slices.Clone(f.Reached)
	slices.Reverse(reached) // from the last one to the first
	settle(reached, func(n int, again func(int)) {
		i := last - n
		ahead := f.Behind(i, needed)
		reads, _ := code.Uses(f.Ins[i])
		for _, r := range reads {
			ahead.Add(r)
		}
		if ahead == needed[i] {
			return
		}
		needed[i] = ahead
		for _, from := range f.from[i] {
			again(last - from)
		}
	})
	return needed
}

// Behind returns what is needed behind an instruction, but for what it writes itself.
func (f *Flow) Behind(i int, needed []Set) Set {
	var behind Set
	_, writes := code.Uses(f.Ins[i])
	for to, wrote := range f.Ways(i) {
		on := needed[to]
		if wrote && writes >= 0 {
			on.Remove(writes)
		}
		behind.Join(on)
	}
	return behind
}

// Kept returns the maps that code needs at least: for each safe point that is reached, and behind which a register of the class Any is needed, one with just these.
func (f *Flow) Kept(classes []int) []code.Map {
	var l []code.Map
	needed := f.Needed()
	for i, x := range f.Ins {
		if !f.Reached[i] || !code.Safe(x) {
			continue
		}
		behind := f.Behind(i, needed)
		if live := anys(behind, classes); len(live) > 0 {
			l = append(l, code.Map{At: x.At, Live: live})
		}
	}
	return l
}

// anys returns the registers of a set that have the class Any.
func anys(s Set, classes []int) []int {
	var l []int
	for _, r := range s.List() {
		if classes[r] == code.Any {
			l = append(l, r)
		}
	}
	return l
}
