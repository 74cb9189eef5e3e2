package num

import (
	"cmp"
	"math/bits"
)

// wide is 128 bits.
type wide struct{ hi, lo uint64 }

// lower returns the lower n bits.
func (w wide) lower(n int) wide {
	switch {
	case n >= 128:
		return w
	case n > 64:
		return wide{w.hi & (1<<(n-64) - 1), w.lo}
	case n == 64:
		return wide{0, w.lo}
	}
	return wide{0, w.lo & (1<<n - 1)}
}

func (w wide) compare(x wide) int {
	return cmp.Or(cmp.Compare(w.hi, x.hi), cmp.Compare(w.lo, x.lo))
}

// add returns the sum's lower bits, and the carry.
func (w wide) add(x wide) (wide, bool) {
	lo, carry := bits.Add64(w.lo, x.lo, 0)
	hi, carry := bits.Add64(w.hi, x.hi, carry)
	return wide{hi, lo}, carry > 0
}

func (w wide) sub(x wide) wide {
	lo, borrow := bits.Sub64(w.lo, x.lo, 0)
	hi, _ := bits.Sub64(w.hi, x.hi, borrow)
	return wide{hi, lo}
}

func (w wide) neg() wide { return wide{}.sub(w) }

func (w wide) not() wide { return wide{^w.hi, ^w.lo} }

// mul returns the product's lower bits, and whether there are higher ones.
func (w wide) mul(x wide) (wide, bool) {
	hi, lo := bits.Mul64(w.lo, x.lo)
	over1, cross1 := bits.Mul64(w.hi, x.lo)
	over2, cross2 := bits.Mul64(w.lo, x.hi)
	hi, carry1 := bits.Add64(hi, cross1, 0)
	hi, carry2 := bits.Add64(hi, cross2, 0)
	return wide{hi, lo}, over1|over2|carry1|carry2 > 0 || w.hi > 0 && x.hi > 0
}

// div returns quotient and remainder; x is not 0.
func (w wide) div(x wide) (quotient, rest wide) {
	if x.hi == 0 {
		quotient.hi = w.hi / x.lo
		quotient.lo, rest.lo = bits.Div64(w.hi%x.lo, w.lo, x.lo)
		return quotient, rest
	}
	rest = w
	for n := bits.LeadingZeros64(x.hi); n >= 0; n-- {
		if y := x.shl(n); rest.compare(y) >= 0 {
			rest = rest.sub(y)
			quotient.lo |= 1 << n
		}
	}
	return quotient, rest
}

func (w wide) shl(n int) wide {
	if n >= 64 {
		return wide{w.lo << (n - 64), 0}
	}
	return wide{w.hi<<n | w.lo>>(64-n), w.lo << n}
}

func (w wide) shr(n int) wide {
	if n >= 64 {
		return wide{0, w.hi >> (n - 64)}
	}
	return wide{w.hi >> n, w.lo>>n | w.hi<<(64-n)}
}

// length is the number of bits without zeros ahead.
func (w wide) length() int {
	if w.hi > 0 {
		return 64 + bits.Len64(w.hi)
	}
	return bits.Len64(w.lo)
}

// text returns decimal digits.
func (w wide) text() string {
	var b [39]byte // 2^128 has 39 digits
	at := len(b)
	for {
		at--
		var digit wide
		w, digit = w.div(wide{0, 10})
		b[at] = '0' + byte(digit.lo)
		if w == (wide{}) {
			return string(b[at:])
		}
	}
}
