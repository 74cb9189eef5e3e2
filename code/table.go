package code

import "hackamore/api"

// part says what a part of an instruction is: A, B, C, or an index word.
type part uint8

const (
	empty     part = iota
	aNum           // a register with bits
	anAny          // a register with a value
	aRegister      // one of either class
	aKind
	aNumber // any
	aCount  // of the list
	aRaise  // 1, if the instruction goes on somewhere with an error
	aValue
	aText
	aType
	anEntity
	aSelector
	aFunction
	aTarget
	high // the higher byte of D, of which B says what it is
)

// operands are what A, B and C of an instruction are.
type operands struct{ a, b, c part }

// more is what stands behind the first word: index words, and a list of so many registers at least.
type more struct {
	index []part
	list  bool
	least int
}

// row is what the instructions of an operation have. Of the registers A, B and C writes tells whether A is written, and not read.
type row struct {
	operands
	more
	writes, safe bool
}

var rows = [Ops]row{
	Const:  {operands: operands{aRegister, aValue, high}, writes: true},
	Move:   {operands: operands{aRegister, aRegister, empty}, writes: true},
	Box:    {operands: operands{anAny, aNum, aKind}, writes: true},
	Unbox:  {operands: operands{aNum, anAny, aKind}, writes: true},
	Tuple:  {operands: operands{anAny, aCount, empty}, more: more{list: true, least: 2}, writes: true},
	Item:   {operands: operands{anAny, anAny, aNumber}, writes: true},
	Text:   {operands: operands{anAny, aText, high}, writes: true, safe: true},
	Make:   {operands: operands{anAny, anEntity, high}, writes: true, safe: true},
	Stack:  {operands: operands{anAny, anEntity, high}, writes: true, safe: true},
	Get:    {operands: operands{anAny, anAny, empty}, more: more{index: []part{aText}}, writes: true},
	Set:    {operands: operands{anAny, anAny, anAny}, more: more{index: []part{aText}}, writes: true},
	Call:   {operands: operands{anAny, aCount, aRaise}, more: more{[]part{aSelector}, true, 1}, writes: true, safe: true},
	Direct: {operands: operands{anAny, aCount, aRaise}, more: more{[]part{aFunction}, true, 0}, writes: true, safe: true},
	Native: {operands: operands{anAny, aCount, aRaise}, more: more{[]part{aText}, true, 1}, writes: true, safe: true},
	Spawn:  {operands: operands{anAny, aCount, empty}, more: more{[]part{anEntity, aText}, true, 0}, writes: true, safe: true},
	Send:   {operands: operands{empty, aCount, empty}, more: more{[]part{aText}, true, 1}, safe: true},
	Same:   {operands: operands{aNum, anAny, anAny}, writes: true},
	Fits:   {operands: operands{aNum, anAny, empty}, more: more{index: []part{aType}}, writes: true},
	Jump:   {operands: operands{empty, aTarget, high}},
	Branch: {operands: operands{aNum, aTarget, high}},
	Return: {operands: operands{anAny, empty, empty}},
	Raise:  {},
	Stuck:  {},
	Arith:  {operands: operands{aNum, aNum, aNum}, more: more{index: []part{aText}}, writes: true},
}

// isOp reports whether a number is an operation.
func isOp(op int) bool { return op >= 0 && op < Ops }

func (p part) isRegister() bool { return p == aNum || p == anAny || p == aRegister }

// isKind reports whether a number is the kind of values that have bits.
func isKind(n int) bool {
	const last = 30
	return n == api.ValBool || n >= api.ValNumber && n <= last
}

// wide returns D.
func (i Ins) wide() int { return i.B + 256*i.C }

// Next returns where what can follow an instruction begins.
func Next(i Ins) []int {
	var l []int
	put := func(at int) {
		if len(l) == 0 || l[0] != at {
			l = append(l, at)
		}
	}
	switch i.Op {
	case Return, Raise, Stuck:
	case Jump:
		put(i.wide())
	case Branch:
		put(i.At + i.Length)
		put(i.wide())
	default:
		put(i.At + i.Length)
		if i.Raised >= 0 {
			put(i.Raised)
		}
	}
	return l
}

// Uses returns the registers that an instruction reads, and the one that it writes (-1: none).
func Uses(i Ins) (reads []int, writes int) {
	if !isOp(i.Op) {
		return nil, -1
	}
	r := rows[i.Op]
	writes = -1
	switch {
	case r.writes:
		writes = i.A
	case r.a.isRegister():
		reads = append(reads, i.A)
	}
	if r.b.isRegister() {
		reads = append(reads, i.B)
	}
	if r.c.isRegister() {
		reads = append(reads, i.C)
	}
	if r.list {
		reads = append(reads, i.List...)
	}
	return reads, writes
}

// Safe reports whether an instruction is a safe point.
func Safe(i Ins) bool { return isOp(i.Op) && rows[i.Op].safe }
