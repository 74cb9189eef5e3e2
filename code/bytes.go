package code

import (
	"hackamore/api"
	"hackamore/colour"
	"hackamore/types"
)

// most is a bound of all numbers in bytes but bits.
const most = 1 << 40

// hasRange reports whether a number of a slot, an offset or a colour can be written: -1 counts, too.
func hasRange(n int) bool { return n >= -1 && n < most }

func areRanged(p Program) bool {
	for _, v := range p.Values {
		if v.Kind < 0 || v.Kind >= most {
			return false
		}
	}
	for _, s := range p.Vector {
		if !hasRange(s.Selector) || !hasRange(s.Method) {
			return false
		}
	}
	for _, l := range [...][]int{p.Offsets, p.Colours} {
		for _, n := range l {
			if !hasRange(n) {
				return false
			}
		}
	}
	return true
}

// encoder writes bytes; it stops behind MaxBytes.
type encoder struct{ b []byte }

func (x *encoder) isFull() bool { return len(x.b) > MaxBytes }

func (x *encoder) bits(n uint64) {
	for ; n > 127; n >>= 7 {
		x.b = append(x.b, byte(n)|128)
	}
	x.b = append(x.b, byte(n))
}

func (x *encoder) number(n int) { x.bits(uint64(n)) }

// above writes a number from -1 on.
func (x *encoder) above(n int) { x.number(n + 1) }

func (x *encoder) text(s string) {
	x.number(len(s))
	x.b = append(x.b, s...)
}

func (x *encoder) typ(t api.Type) {
	s, _ := types.Text(t)
	x.text(s)
}

func (x *encoder) value(v api.Value) {
	x.number(v.Kind)
	x.bits(v.Lo)
	x.bits(v.Hi)
	x.text(v.Name)
}

func (x *encoder) slot(s colour.Slot) {
	x.above(s.Selector)
	x.above(s.Method)
}

func (x *encoder) word(w uint32) {
	l := bytesOf(w)
	x.b = append(x.b, l[:]...)
}

func (x *encoder) mapped(m Map) {
	x.number(m.At)
	writeList(x, m.Live, (*encoder).number)
}

func (x *encoder) function(f Function) {
	x.text(f.Name)
	x.number(f.Params)
	writeList(x, f.Classes, (*encoder).number)
	writeList(x, f.Words, (*encoder).word)
	writeList(x, f.Maps, (*encoder).mapped)
}

// writeList writes how many elements a list has, and then these.
func writeList[T any](x *encoder, l []T, write func(*encoder, T)) {
	x.number(len(l))
	for _, y := range l {
		if x.isFull() {
			return
		}
		write(x, y)
	}
}

// Encode returns the bytes of a program.
func Encode(p Program) ([]byte, api.Errno) {
	if _, e := Check(p); e != api.OK {
		return nil, e
	}
	if !areRanged(p) {
		return nil, api.ErrRange
	}
	x := &encoder{}
	writeList(x, p.Functions, (*encoder).function)
	writeList(x, p.Texts, (*encoder).text)
	writeList(x, p.Types, (*encoder).typ)
	writeList(x, p.Values, (*encoder).value)
	writeList(x, p.Entities, (*encoder).text)
	writeList(x, p.Selectors, (*encoder).text)
	writeList(x, p.Vector, (*encoder).slot)
	writeList(x, p.Offsets, (*encoder).above)
	writeList(x, p.Colours, (*encoder).above)
	if x.isFull() {
		return nil, api.ErrLarge
	}
	return x.b, api.OK
}

// decoder reads bytes.
type decoder struct{ rest []byte }

// take takes so many bytes away.
func (d *decoder) take(n int) []byte {
	must(n <= len(d.rest))
	b := d.rest[:n]
	d.rest = d.rest[n:]
	return b
}

// bits reads a number of 64 bits, which is as short as it can be.
func (d *decoder) bits() uint64 {
	n := uint64(0)
	for shift := 0; ; shift += 7 {
		b := d.take(1)[0]
		group := uint64(b & 127)
		must(shift < 64 && group<<shift>>shift == group)
		n |= group << shift
		if b < 128 {
			must(b > 0 || shift == 0)
			return n
		}
	}
}

func (d *decoder) number() int {
	n := d.bits()
	must(n <= most)
	return int(n)
}

func (d *decoder) above() int { return d.number() - 1 }

func (d *decoder) text() string { return string(d.take(d.number())) }

func (d *decoder) typ() api.Type { return typeOf(d.text()) }

// The parts of what is read are read one by one: their order is that of the bytes.

func (d *decoder) value() (v api.Value) {
	v.Kind = d.number()
	v.Lo = d.bits()
	v.Hi = d.bits()
	v.Name = d.text()
	return v
}

func (d *decoder) slot() (s colour.Slot) {
	s.Selector = d.above()
	s.Method = d.above()
	return s
}

func (d *decoder) word() uint32 { return wordOf([perWord]byte(d.take(perWord))) }

func (d *decoder) mapped() (m Map) {
	m.At = d.number()
	m.Live = readList(d, (*decoder).number)
	return m
}

func (d *decoder) function() (f Function) {
	f.Name = d.text()
	f.Params = d.number()
	f.Classes = readList(d, (*decoder).number)
	f.Words = readList(d, (*decoder).word)
	f.Maps = readList(d, (*decoder).mapped)
	return f
}

// readList reads a list, of which each element has a byte at least.
func readList[T any](d *decoder, read func(*decoder) T) []T {
	n := d.number()
	must(n <= len(d.rest))
	var l []T
	for range n {
		l = append(l, read(d))
	}
	return l
}

func (d *decoder) program() (p Program) {
	p.Functions = readList(d, (*decoder).function)
	p.Texts = readList(d, (*decoder).text)
	p.Types = readList(d, (*decoder).typ)
	p.Values = readList(d, (*decoder).value)
	p.Entities = readList(d, (*decoder).text)
	p.Selectors = readList(d, (*decoder).text)
	p.Vector = readList(d, (*decoder).slot)
	p.Offsets = readList(d, (*decoder).above)
	p.Colours = readList(d, (*decoder).above)
	must(len(d.rest) == 0)
	return p
}

// Decode returns the program with given bytes.
func Decode(b []byte) (Program, api.Errno) {
	if len(b) > MaxBytes {
		return Program{}, api.ErrSize
	}
	var p Program
	if !isRead(func() { p = (&decoder{b}).program() }) {
		return Program{}, ErrBytes
	}
	if _, e := Check(p); e != api.OK {
		return Program{}, e
	}
	return p, api.OK
}
