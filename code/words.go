package code

import (
	"math"
	"slices"

	"hackamore/api"
)

const perWord = 4

// wordOf returns the word with four bytes, the lowest one first.
func wordOf(b [perWord]byte) uint32 {
	return uint32(b[0]) | uint32(b[1])<<8 | uint32(b[2])<<16 | uint32(b[3])<<24
}

func bytesOf(w uint32) [perWord]byte {
	return [...]byte{byte(w), byte(w >> 8), byte(w >> 16), byte(w >> 24)}
}

func isByte(n int) bool { return n >= 0 && n <= math.MaxUint8 }

func isIndex(n int) bool { return n >= 0 && n <= math.MaxInt32 }

// Pack returns the first word of an instruction.
func Pack(op, a, b, c int) (uint32, api.Errno) {
	if !isByte(op) || !isByte(a) || !isByte(b) || !isByte(c) {
		return 0, api.ErrRange
	}
	return wordOf([...]byte{byte(op), byte(a), byte(b), byte(c)}), api.OK
}

// Unpack returns the parts of a first word.
func Unpack(w uint32) (op, a, b, c int) {
	l := bytesOf(w)
	return int(l[0]), int(l[1]), int(l[2]), int(l[3])
}

// isFormed reports whether an instruction has just the parts that its operation asks for.
func (i Ins) isFormed() bool {
	if !isOp(i.Op) {
		return false
	}
	r := rows[i.Op]
	for k, p := range [...]part{r.a, r.b, r.c} {
		n := [...]int{i.A, i.B, i.C}[k]
		switch {
		case p == empty && n != 0:
			return false
		case p == aCount && (n < r.least || n > MaxArgs || n != len(i.List)):
			return false
		case p == aRaise && n != 0 && n != 1:
			return false
		}
	}
	raises := r.c == aRaise && i.C == 1
	return len(i.Index) == len(r.index) && (r.list || len(i.List) == 0) && (raises || i.Raised == -1)
}

// hasRanges reports whether all parts of a formed instruction fit into its words.
func (i Ins) hasRanges() bool {
	isFar := func(n int) bool { return !isIndex(n) }
	switch {
	case !isByte(i.A) || !isByte(i.B) || !isByte(i.C):
		return false
	case slices.ContainsFunc(i.List, func(n int) bool { return !isByte(n) }):
		return false
	}
	return !slices.ContainsFunc(i.Index, isFar) && (!i.raises() || !isFar(i.Raised))
}

// raises reports whether a formed instruction goes on somewhere with an error.
func (i Ins) raises() bool { return rows[i.Op].c == aRaise && i.C == 1 }

// Words returns the words of an instruction.
func Words(i Ins) ([]uint32, api.Errno) {
	if !i.isFormed() {
		return nil, ErrWord
	}
	if !i.hasRanges() {
		return nil, api.ErrRange
	}
	first, _ := Pack(i.Op, i.A, i.B, i.C)
	l := []uint32{first}
	for _, n := range i.Index {
		l = append(l, uint32(n))
	}
	if i.raises() {
		l = append(l, uint32(i.Raised))
	}
	return append(l, packed(i.List)...), api.OK
}

// packed returns the words of a list of registers.
func packed(list []int) []uint32 {
	b := make([]byte, (len(list)+perWord-1)/perWord*perWord)
	for k, n := range list {
		b[k] = byte(n)
	}
	var l []uint32
	for ; len(b) > 0; b = b[perWord:] {
		l = append(l, wordOf([perWord]byte(b)))
	}
	return l
}

// unpacked returns the first registers of the words of a list.
func unpacked(words []uint32, n int) []int {
	var l []int
	for k := range n {
		l = append(l, int(bytesOf(words[k/perWord])[k%perWord]))
	}
	return l
}

// Read returns the instruction that begins with a word.
func Read(words []uint32, at int) (Ins, api.Errno) {
	if at < 0 || at >= len(words) {
		return Ins{}, api.ErrRange
	}
	i := Ins{At: at, Raised: -1}
	i.Op, i.A, i.B, i.C = Unpack(words[at])
	if !isOp(i.Op) {
		return Ins{}, ErrWord
	}
	rest := words[at+1:]
	r, lists := rows[i.Op], 0
	indices := len(r.index)
	if i.raises() {
		indices++
	}
	if r.list {
		lists = (i.B + perWord - 1) / perWord
	}
	i.Length = 1 + indices + lists
	if indices+lists > len(rest) {
		return Ins{}, ErrWord
	}
	for _, w := range rest[:len(r.index)] {
		i.Index = append(i.Index, int(w))
	}
	if i.raises() {
		i.Raised = int(rest[indices-1])
	}
	if r.list {
		i.List = unpacked(rest[indices:], i.B)
	}
	if l, e := Words(i); e != api.OK || !slices.Equal(l, words[at:at+i.Length]) {
		return Ins{}, ErrWord
	}
	return i, api.OK
}

// All returns all instructions of some words; with an error the word at which none can be read.
func All(words []uint32) ([]Ins, int, api.Errno) {
	var l []Ins
	for at := 0; at < len(words); {
		i, e := Read(words, at)
		if e != api.OK {
			return nil, at, e
		}
		l = append(l, i)
		at += i.Length
	}
	return l, 0, api.OK
}
