package cap

import "hackamore/api"

// Capabilities with marks, as bits: ref, val, box and tag are the same with each mark.
const (
	isoGiven = 1 << iota
	isoHeld
	isoAgain
	trnGiven
	trnHeld
	trnAgain
	refHeld
	valHeld
	boxHeld
	tagHeld
	everything = 1<<iota - 1
)

// bits[c][mark] is the bit of a marked capability.
var bits = [7][3]uint{
	api.Iso: {isoHeld, isoGiven, isoAgain},
	api.Trn: {trnHeld, trnGiven, trnAgain},
	api.Ref: {refHeld, refHeld, refHeld},
	api.Val: {valHeld, valHeld, valHeld},
	api.Box: {boxHeld, boxHeld, boxHeld},
	api.Tag: {tagHeld, tagHeld, tagHeld},
}

const (
	fitsTag = tagHeld
	fitsBox = boxHeld | fitsTag
	fitsVal = valHeld | fitsBox
	fitsRef = refHeld | fitsBox
)

// fitting[c][mark] has what a marked capability may be held as.
var fitting = [7][3]uint{
	api.Iso: {isoHeld | isoAgain | fitsTag, everything, isoAgain | fitsTag},
	api.Trn: {trnHeld | trnAgain | fitsBox, trnGiven | trnHeld | trnAgain | fitsRef | fitsVal, trnAgain | fitsBox},
	api.Ref: {fitsRef, fitsRef, fitsRef},
	api.Val: {fitsVal, fitsVal, fitsVal},
	api.Box: {fitsBox, fitsBox, fitsBox},
	api.Tag: {fitsTag, fitsTag, fitsTag},
}

func isMarked(c, mark int) bool { return Is(c) && mark >= api.Plain && mark <= api.Aliased }

// Fits reports whether a capability with a mark may be held with another one with a mark.
func Fits(a, mark, b, other int) bool {
	return isMarked(a, mark) && isMarked(b, other) && fitting[a][mark]&bits[b][other] != 0
}

// Sub reports whether what has the capability a, and no other reference of this holder, may be held with the capability b.
func Sub(a, b int) bool { return Fits(a, api.Ephemeral, b, api.Plain) }

// Alias returns the capability and the mark of a further reference.
func Alias(c, mark int) (int, int) {
	switch {
	case !isMarked(c, mark):
		return 0, api.Plain
	case !isUnique(c), mark == api.Ephemeral:
		return c, api.Plain
	}
	return c, api.Aliased
}

// Consumed returns the capability and the mark of what is given up.
func Consumed(c, mark int) (int, int) {
	switch {
	case !isMarked(c, mark):
		return 0, api.Plain
	case !isUnique(c):
		return c, api.Plain
	case mark == api.Aliased:
		return c, api.Aliased
	}
	return c, api.Ephemeral
}

// isUnique reports whether marks play a part.
func isUnique(c int) bool { return c == api.Iso || c == api.Trn }
