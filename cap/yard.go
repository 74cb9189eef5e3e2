package cap

import (
	"cmp"
	"iter"
	"slices"

	"hackamore/api"
)

// Limits of a yard.
const (
	MaxHolders = 4
	MaxThings  = 50
	MaxHeld    = 20
)

// Held is a reference that a holder has: its object and its capability.
type Held struct{ Thing, Cap int }

// Yard has holders (actors), and objects with fields, whose capabilities are told; a field without an object has -1.
type Yard struct {
	Holders [][]Held
	Fields  [][]Held
}

// Act is something that a holder does.
type Act struct{ Op, Holder, A, B, C, D int }

// Operations of acts.
const (
	Make = iota
	Copy
	Move
	Read
	Write
	Give
	Drop
)

// nothing is the Thing of a field that refers to none; fields is how many of them a thing has.
const (
	nothing = -1
	fields  = 2
)

// NewYard returns a yard with holders that have nothing.
func NewYard(holders int) (Yard, api.Errno) {
	if holders < 1 || holders > MaxHolders {
		return Yard{}, api.ErrRange
	}
	return Yard{Holders: make([][]Held, holders)}, api.OK
}

// Check returns the error of a yard.
func Check(y Yard) api.Errno {
	if len(y.Holders) < 1 || len(y.Holders) > MaxHolders || len(y.Fields) > MaxThings {
		return api.ErrSize
	}
	for _, l := range y.Holders {
		if len(l) > MaxHeld {
			return api.ErrSize
		}
	}
	for _, l := range y.Fields {
		if len(l) != fields {
			return api.ErrSize
		}
	}
	for _, l := range [...][][]Held{y.Holders, y.Fields} {
		if anyOf(l, func(h Held) bool { return !Is(h.Cap) }) {
			return api.ErrCap
		}
	}
	things := len(y.Fields)
	if anyOf(y.Holders, func(h Held) bool { return h.Thing < 0 || h.Thing >= things }) ||
		anyOf(y.Fields, func(h Held) bool { return h.Thing < nothing || h.Thing >= things }) {
		return api.ErrRange
	}
	return api.OK
}

func anyOf(l [][]Held, is func(Held) bool) bool {
	return slices.ContainsFunc(l, func(h []Held) bool { return slices.ContainsFunc(h, is) })
}

// doing is an act in a yard of its own, which the act may change.
type doing struct {
	Yard
	Act
}

// acts are what operations do; what they return ahead of an error is thrown away.
func acts() map[int]func(*doing) api.Errno {
	return map[int]func(*doing) api.Errno{
		Make: (*doing).make, Copy: (*doing).copy, Move: (*doing).move, Read: (*doing).read,
		Write: (*doing).write, Give: (*doing).give, Drop: (*doing).drop,
	}
}

// Do returns a yard behind an act.
func Do(y Yard, a Act) (Yard, api.Errno) {
	if e := Check(y); e != api.OK {
		return Yard{}, e
	}
	if a.Holder < 0 || a.Holder >= len(y.Holders) {
		return Yard{}, api.ErrRange
	}
	act, ok := acts()[a.Op]
	if !ok {
		return Yard{}, api.ErrArg
	}
	d := &doing{Yard{cloned(y.Holders), cloned(y.Fields)}, a}
	if e := act(d); e != api.OK {
		return Yard{}, e
	}
	if d.isFull() {
		return Yard{}, api.ErrFull
	}
	return d.Yard, api.OK
}

func cloned(l [][]Held) [][]Held {
	out := make([][]Held, len(l))
	for i, h := range l {
		out[i] = slices.Clone(h)
	}
	return out
}

func (d *doing) isFull() bool {
	return len(d.Fields) > MaxThings || slices.ContainsFunc(d.Holders, func(l []Held) bool { return len(l) > MaxHeld })
}

// holds reports whether the holder has the reference i.
func (d *doing) holds(i int) bool { return i >= 0 && i < len(d.Holders[d.Holder]) }

// held returns the reference i of the holder.
func (d *doing) held(i int) Held { return d.Holders[d.Holder][i] }

// gain puts a reference behind the others of a holder.
func (d *doing) gain(holder int, h Held) { d.Holders[holder] = append(d.Holders[holder], h) }

func (d *doing) lose(i int) { d.Holders[d.Holder] = slices.Delete(d.Holders[d.Holder], i, i+1) }

// passed returns the capability and the mark of the reference i when it is given up, or copied, as D says.
func (d *doing) passed(i int) (c, mark int) {
	if d.D == 1 {
		return Consumed(d.held(i).Cap, api.Plain)
	}
	return Alias(d.held(i).Cap, api.Plain)
}

func (d *doing) make() api.Errno {
	if !Is(d.A) || !Is(d.B) || !Is(d.C) {
		return api.ErrCap
	}
	d.gain(d.Holder, Held{len(d.Fields), d.C})
	d.Fields = append(d.Fields, []Held{{nothing, d.A}, {nothing, d.B}})
	return api.OK
}

func (d *doing) copy() api.Errno {
	if !d.holds(d.A) {
		return api.ErrRange
	}
	if c, mark := Alias(d.held(d.A).Cap, api.Plain); !Fits(c, mark, d.B, api.Plain) {
		return api.ErrCap
	}
	d.gain(d.Holder, Held{d.held(d.A).Thing, d.B})
	return api.OK
}

func (d *doing) move() api.Errno {
	if !d.holds(d.A) {
		return api.ErrRange
	}
	if c, mark := Consumed(d.held(d.A).Cap, api.Plain); !Fits(c, mark, d.B, api.Plain) {
		return api.ErrCap
	}
	d.Holders[d.Holder][d.A].Cap = d.B
	return api.OK
}

func isField(i int) bool { return i >= 0 && i < fields }

func (d *doing) read() api.Errno {
	if !isField(d.B) || !d.holds(d.A) {
		return api.ErrRange
	}
	from := d.held(d.A)
	field := d.Fields[from.Thing][d.B]
	seen, ok := View(from.Cap, field.Cap)
	if !ok {
		return api.ErrCap
	}
	if field.Thing == nothing {
		return api.ErrNone
	}
	if c, mark := Alias(seen, api.Plain); !Fits(c, mark, d.C, api.Plain) {
		return api.ErrCap
	}
	d.gain(d.Holder, Held{field.Thing, d.C})
	return api.OK
}

func (d *doing) write() api.Errno {
	if !isField(d.B) || !d.holds(d.A) || !d.holds(d.C) {
		return api.ErrRange
	}
	if d.D != 0 && d.D != 1 || d.D == 1 && d.A == d.C {
		return api.ErrArg
	}
	to, value := d.held(d.A), d.held(d.C)
	field := d.Fields[to.Thing][d.B]
	c, mark := d.passed(d.C)
	if !Fits(c, mark, field.Cap, api.Plain) || !Store(to.Cap, c, mark) {
		return api.ErrCap
	}
	d.Fields[to.Thing][d.B].Thing = value.Thing
	if d.D == 1 {
		d.lose(d.C)
	}
	if old, _, ok := Extract(to.Cap, field.Cap); ok && field.Thing != nothing {
		d.gain(d.Holder, Held{field.Thing, old})
	}
	return api.OK
}

func (d *doing) give() api.Errno {
	if d.B < 0 || d.B >= len(d.Holders) {
		return api.ErrRange
	}
	if d.B == d.Holder {
		return api.ErrArg
	}
	if !d.holds(d.A) {
		return api.ErrRange
	}
	if d.D != 0 && d.D != 1 {
		return api.ErrArg
	}
	if c, mark := d.passed(d.A); !Sendable(d.C) || !Fits(c, mark, d.C, api.Plain) {
		return api.ErrCap
	}
	d.gain(d.B, Held{d.held(d.A).Thing, d.C})
	if d.D == 1 {
		d.lose(d.A)
	}
	return api.OK
}

func (d *doing) drop() api.Errno {
	if !d.holds(d.A) {
		return api.ErrRange
	}
	d.lose(d.A)
	return api.OK
}

// reached hands on, each once, the references of a holder, and then, one by one, what is seen through them.
func reached(y Yard, holder int) iter.Seq[Held] {
	return func(yield func(Held) bool) {
		known := map[Held]bool{}
		work := slices.Clone(y.Holders[holder])
		for len(work) > 0 {
			h := work[0]
			work = work[1:]
			if known[h] {
				continue
			}
			known[h] = true
			if !yield(h) {
				return
			}
			for _, f := range y.Fields[h.Thing] {
				if c, ok := View(h.Cap, f.Cap); ok && f.Thing != nothing {
					work = append(work, Held{f.Thing, c})
				}
			}
		}
	}
}

// Seen returns all references that a holder has, directly or through fields.
func Seen(y Yard, holder int) []Held {
	if Check(y) != api.OK || holder < 0 || holder >= len(y.Holders) {
		return nil
	}
	return slices.SortedFunc(reached(y, holder), func(a, b Held) int {
		return cmp.Or(cmp.Compare(a.Thing, b.Thing), cmp.Compare(a.Cap, b.Cap))
	})
}

// Race returns an object that one holder may write, and another one read.
func Race(y Yard) (thing, writer, reader int, found bool) {
	if Check(y) != api.OK {
		return 0, 0, 0, false
	}
	writes, reads := map[Held]bool{}, map[Held]bool{} // of a thing by a holder, which stands in the place of Cap
	for holder := range y.Holders {
		for h := range reached(y, holder) {
			at := Held{h.Thing, holder}
			writes[at] = writes[at] || Writes(h.Cap)
			reads[at] = reads[at] || Reads(h.Cap)
		}
	}
	for thing := range y.Fields {
		for writer := range y.Holders {
			for reader := range y.Holders {
				if writer != reader && writes[Held{thing, writer}] && reads[Held{thing, reader}] {
					return thing, writer, reader, true
				}
			}
		}
	}
	return 0, 0, 0, false
}
