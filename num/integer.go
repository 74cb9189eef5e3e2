package num

import (
	"math/bits"
	"strings"

	"hackamore/api"
)

// exact is an integer: its sign, the lower bits of its magnitude, and whether this has higher ones.
type exact struct {
	neg  bool
	mag  wide
	over bool
}

// exactly returns the integer that a value is.
func exactly(v api.Value) exact {
	typ := v.Kind - api.ValNumber
	n, w := size(typ), wide{v.Hi, v.Lo}
	if isSigned(typ) && w.shr(n-1).lo == 1 {
		return exact{neg: true, mag: w.neg().lower(n)}
	}
	return exact{mag: w}
}

// wrapped returns the value of a type that differs from an integer by a multiple of 2^n.
func (x exact) wrapped(typ int) api.Value {
	if x.neg {
		return value(typ, x.mag.neg())
	}
	return value(typ, x.mag)
}

// limit returns the greatest magnitude that an integer of a sign has in a type.
func limit(typ int, neg bool) wide {
	n := size(typ)
	switch {
	case !isSigned(typ) && neg:
		return wide{}
	case !isSigned(typ):
		return wide{}.not().lower(n)
	case neg:
		return wide{0, 1}.shl(n - 1)
	}
	return wide{}.not().lower(n - 1)
}

// fits reports whether an integer is of a type.
func (x exact) fits(typ int) bool { return !x.over && x.mag.compare(limit(typ, x.neg)) <= 0 }

// nearest returns the integer of a type that is nearest.
func (x exact) nearest(typ int) api.Value {
	if !x.fits(typ) {
		x.mag = limit(typ, x.neg)
	}
	return x.wrapped(typ)
}

func (x exact) minus() exact {
	x.neg = !x.neg && x.mag != wide{}
	return x
}

func (x exact) compare(y exact) int {
	switch {
	case x.neg && y.neg:
		return y.mag.compare(x.mag)
	case x.neg:
		return -1
	case y.neg:
		return 1
	}
	return x.mag.compare(y.mag)
}

func (x exact) add(y exact) exact {
	if x.neg == y.neg {
		sum, over := x.mag.add(y.mag)
		return exact{x.neg, sum, over}
	}
	if x.mag.compare(y.mag) < 0 {
		x, y = y, x
	}
	rest := x.mag.sub(y.mag)
	return exact{neg: x.neg && rest != wide{}, mag: rest}
}

func (x exact) sub(y exact) exact { return x.add(y.minus()) }

func (x exact) mul(y exact) exact {
	product, over := x.mag.mul(y.mag)
	return exact{x.neg != y.neg && (over || product != wide{}), product, over}
}

func (x exact) div(y exact) exact {
	if y.mag == (wide{}) {
		return exact{}
	}
	quotient, _ := x.mag.div(y.mag)
	return exact{neg: x.neg != y.neg && quotient != wide{}, mag: quotient}
}

func (x exact) rem(y exact) exact {
	if y.mag == (wide{}) {
		return exact{}
	}
	_, rest := x.mag.div(y.mag)
	return exact{neg: x.neg && rest != wide{}, mag: rest}
}

// integerMethod returns a method of a type of integers.
func integerMethod(typ int, name string) (method, bool) {
	short, partial := strings.CutSuffix(name, "_partial")
	if f, ok := arithmetic()[short]; ok {
		return calculation(typ, f, partial, short == "div" || short == "rem"), true
	}
	if f, ok := comparison(name); ok {
		return method{true, func(x, y api.Value) (api.Value, bool) {
			return boolean(f(exactly(x).compare(exactly(y)))), true
		}}, true
	}
	if name == "min" || name == "max" {
		return extreme(name == "min"), true
	}
	if f, ok := binaryBits()[name]; ok {
		return method{true, func(x, y api.Value) (api.Value, bool) {
			return value(typ, f(x, y)), true
		}}, true
	}
	if f, ok := unaryBits()[name]; ok {
		return method{false, func(x, _ api.Value) (api.Value, bool) {
			return value(typ, f(wide{x.Hi, x.Lo}, size(typ))), true
		}}, true
	}
	return integerUnary(typ, name)
}

func arithmetic() map[string]func(x, y exact) exact {
	return map[string]func(x, y exact) exact{
		"add": exact.add, "sub": exact.sub, "mul": exact.mul, "div": exact.div, "rem": exact.rem,
	}
}

// calculation returns a method that gives the result of f; a partial one of a division needs a quotient.
func calculation(typ int, f func(x, y exact) exact, partial, division bool) method {
	return method{true, func(v, w api.Value) (api.Value, bool) {
		x, y := exactly(v), exactly(w)
		r := f(x, y)
		if partial && (!r.fits(typ) || division && (y.mag == wide{} || !x.div(y).fits(typ))) {
			return api.Value{}, false
		}
		return r.wrapped(typ), true
	}}
}

// extreme returns the method min or max.
func extreme(least bool) method {
	return method{true, func(x, y api.Value) (api.Value, bool) {
		c := exactly(x).compare(exactly(y))
		if c == 0 || c < 0 == least {
			return x, true
		}
		return y, true
	}}
}

func binaryBits() map[string]func(x, y api.Value) wide {
	return map[string]func(x, y api.Value) wide{
		"op_and": func(x, y api.Value) wide { return wide{x.Hi & y.Hi, x.Lo & y.Lo} },
		"op_or":  func(x, y api.Value) wide { return wide{x.Hi | y.Hi, x.Lo | y.Lo} },
		"op_xor": func(x, y api.Value) wide { return wide{x.Hi ^ y.Hi, x.Lo ^ y.Lo} },
		"shl":    shiftLeft,
		"shr":    shiftRight,
	}
}

// shift returns by how many bits a value shifts those of its type, at most by all of them.
func shift(y api.Value) int {
	n := uint64(size(y.Kind - api.ValNumber))
	if y.Hi > 0 || y.Lo > n {
		return int(n)
	}
	return int(y.Lo)
}

func shiftLeft(x, y api.Value) wide {
	return wide{x.Hi, x.Lo}.shl(shift(y))
}

func shiftRight(x, y api.Value) wide {
	w := wide{x.Hi, x.Lo}
	if exactly(x).neg { // the zeros that come in behind the complement become ones
		return w.not().lower(size(x.Kind - api.ValNumber)).shr(shift(y)).not()
	}
	return w.shr(shift(y))
}

func unaryBits() map[string]func(w wide, n int) wide {
	return map[string]func(w wide, n int) wide{
		"op_not":   func(w wide, _ int) wide { return w.not() },
		"popcount": func(w wide, _ int) wide { return wide{0, uint64(bits.OnesCount64(w.hi) + bits.OnesCount64(w.lo))} },
		"clz":      func(w wide, n int) wide { return wide{0, uint64(n - w.length())} },
		"ctz": func(w wide, n int) wide {
			lowest, _ := w.not().add(wide{0, 1}) // -w
			lowest = wide{lowest.hi & w.hi, lowest.lo & w.lo}
			if w == (wide{}) {
				return wide{0, uint64(n)}
			}
			return wide{0, uint64(lowest.length() - 1)}
		},
	}
}

// integerUnary returns neg, abs or a conversion.
func integerUnary(typ int, name string) (method, bool) {
	f := func(x exact) api.Value { return x.minus().wrapped(typ) }
	if name == "abs" {
		f = func(x exact) api.Value { return exact{mag: x.mag}.wrapped(typ) }
	}
	to, ok := target(name)
	switch {
	case ok && isFloat(to):
		f = func(x exact) api.Value { return x.float(to) }
	case ok:
		f = func(x exact) api.Value { return x.wrapped(to) }
	}
	return method{false, func(x, _ api.Value) (api.Value, bool) {
		return f(exactly(x)), true
	}}, ok || name == "neg" || name == "abs"
}
