package colour

import (
	"slices"

	"hackamore/api"
)

var noSlot = Slot{-1, -1}

// table returns the vector of the entries of a class.
func table(l []Entry, colours []int) []Slot {
	size := 0
	for _, x := range l {
		size = max(size, colours[x.Selector]+1)
	}
	out := slices.Repeat([]Slot{noSlot}, size)
	for _, x := range l {
		out[colours[x.Selector]] = Slot(x)
	}
	return out
}

// Table returns the vector of a class.
func Table(w World, colours []int, class int) ([]Slot, api.Errno) {
	if e := CheckColours(w, colours); e != api.OK {
		return nil, e
	}
	if !isIndex(class, len(w.Classes)) {
		return nil, api.ErrNone
	}
	return table(w.Classes[class], colours), api.OK
}

// stack is a vector in which tables stand over one another.
type stack struct {
	vector  []Slot
	offsets []int
}

// fits reports whether a table may stand at an offset.
func (s *stack) fits(l []Slot, offset int) bool {
	if slices.Contains(s.offsets, offset) {
		return false
	}
	for i, x := range l {
		if at := offset + i; x != noSlot && at < len(s.vector) && s.vector[at] != noSlot {
			return false
		}
	}
	return true
}

func (s *stack) put(l []Slot) {
	offset := 0
	for !s.fits(l, offset) {
		offset++
	}
	s.offsets = append(s.offsets, offset)
	if more := offset + len(l) - len(s.vector); more > 0 {
		s.vector = append(s.vector, slices.Repeat([]Slot{noSlot}, more)...)
	}
	for i, x := range l {
		if x != noSlot {
			s.vector[offset+i] = x
		}
	}
}

// Pack returns one vector for all classes, and where each one's part begins.
func Pack(w World, colours []int) ([]Slot, []int, api.Errno) {
	if e := CheckColours(w, colours); e != api.OK {
		return nil, nil, e
	}
	s := &stack{}
	for _, l := range w.Classes {
		s.put(table(l, colours))
	}
	return s.vector, s.offsets, api.OK
}

// Lookup returns the method of a class for a selector, by a packed vector; -1 for none.
func Lookup(vector []Slot, offsets, colours []int, class, selector int) int {
	if !isIndex(class, len(offsets)) || !isIndex(selector, len(colours)) || colours[selector] < 0 {
		return -1
	}
	at := offsets[class] + colours[selector]
	if !isIndex(at, len(vector)) || vector[at].Selector != selector {
		return -1
	}
	return vector[at].Method
}
