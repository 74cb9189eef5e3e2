package num

import (
	"cmp"
	"math"
	"strings"

	"hackamore/api"
)

// The bits of what is not a number.
const (
	nan32 = 0x7fc00000
	nan64 = 0x7ff8000000000000
)

// floating are the two types of Go with which floats are computed.
type floating interface{ float32 | float64 }

// floats converts values of a type of floats to those of Go, and back.
type floats[F floating] struct {
	of    func(v api.Value) F
	value func(x F) api.Value
}

func single() floats[float32] {
	return floats[float32]{
		func(v api.Value) float32 { return math.Float32frombits(uint32(v.Lo)) },
		func(x float32) api.Value {
			v := api.Value{Kind: api.ValNumber + f32, Lo: nan32}
			if x == x {
				v.Lo = uint64(math.Float32bits(x))
			}
			return v
		},
	}
}

func double() floats[float64] {
	return floats[float64]{
		func(v api.Value) float64 { return math.Float64frombits(v.Lo) },
		func(x float64) api.Value {
			v := api.Value{Kind: api.ValNumber + f64, Lo: nan64}
			if x == x {
				v.Lo = math.Float64bits(x)
			}
			return v
		},
	}
}

// strangeNaN reports whether a value is a float that is not a number, and has other bits than it should.
func strangeNaN(v api.Value) bool {
	switch v.Kind - api.ValNumber {
	case f32:
		x := single().of(v)
		return x != x && v.Lo != nan32
	case f64:
		x := double().of(v)
		return x != x && v.Lo != nan64
	}
	return false
}

func finite(x float64) bool { return !math.IsInf(x, 0) && !math.IsNaN(x) }

// narrow returns the nearest float32.
func narrow(x float64) float32 {
	const most = 0x1.ffffffp127 // from here on infinity is nearer
	if math.Abs(x) >= most {
		return float32(math.Inf(cmp.Compare(x, 0)))
	}
	return float32(x)
}

// method returns a method of a type of floats.
func (fs floats[F]) method(typ int, name string) (method, bool) {
	short, partial := strings.CutSuffix(name, "_partial")
	if f, ok := calculations[F]()[short]; ok {
		return method{true, func(x, y api.Value) (api.Value, bool) {
			r := f(fs.of(x), fs.of(y))
			if partial && !finite(float64(r)) {
				return api.Value{}, false
			}
			return fs.value(r), true
		}}, true
	}
	if f, ok := comparison(name); ok {
		return method{true, func(x, y api.Value) (api.Value, bool) {
			return boolean(f(order(fs.of(x), fs.of(y)))), true
		}}, true
	}
	if name == "min" || name == "max" {
		return fs.extreme(name == "min"), true
	}
	if f, ok := roundings()[name]; ok {
		return method{false, func(x, _ api.Value) (api.Value, bool) {
			return fs.value(F(f(float64(fs.of(x))))), true
		}}, true
	}
	return fs.unary(typ, name)
}

func calculations[F floating]() map[string]func(x, y F) F {
	return map[string]func(x, y F) F{
		"add": func(x, y F) F { return x + y },
		"sub": func(x, y F) F { return x - y },
		"mul": func(x, y F) F { return x * y },
		"div": func(x, y F) F { return x / y },
		"rem": func(x, y F) F { return F(math.Mod(float64(x), float64(y))) },
	}
}

// order compares two floats.
func order[F floating](x, y F) int {
	switch {
	case x < y:
		return -1
	case x > y:
		return 1
	case x == y:
		return 0
	}
	return unordered
}

// extreme returns the method min or max.
func (fs floats[F]) extreme(least bool) method {
	return method{true, func(x, y api.Value) (api.Value, bool) {
		a, b := fs.of(x), fs.of(y)
		c := order(a, b)
		if b != b || c == 0 || c == -1 && least || c == 1 && !least {
			return x, true
		}
		return y, true
	}}
}

// roundings are the methods whose results are as exact for float32 as for float64.
func roundings() map[string]func(float64) float64 {
	return map[string]func(float64) float64{
		"sqrt": math.Sqrt, "floor": math.Floor, "ceil": math.Ceil, "trunc": math.Trunc, "round": math.Round, "abs": math.Abs,
		"neg": func(x float64) float64 { return -x },
	}
}

// unary returns what tells of a float, or a conversion.
func (fs floats[F]) unary(typ int, name string) (method, bool) {
	to, ok := target(name)
	f := func(x float64) api.Value { return toInteger(x).nearest(to) }
	switch {
	case name == "finite":
		f, ok = func(x float64) api.Value { return boolean(finite(x)) }, true
	case name == "nan":
		f, ok = func(x float64) api.Value { return boolean(math.IsNaN(x)) }, true
	case ok && to == f32:
		f = func(x float64) api.Value { return single().value(narrow(x)) }
	case ok && to == f64:
		f = double().value
	}
	return method{false, func(x, _ api.Value) (api.Value, bool) {
		return f(float64(fs.of(x))), true
	}}, ok
}

// toInteger returns a float without what is behind its point, 0 for what is not a number.
func toInteger(x float64) exact {
	const word = 1 << 64
	r := exact{neg: x <= -1}
	x = math.Trunc(math.Abs(x))
	switch {
	case math.IsNaN(x):
	case x >= word*word:
		r.over = true
	default:
		high := math.Floor(x / word)
		r.mag = wide{uint64(high), uint64(x - float64(high*word))}
	}
	return r
}

// float returns the nearest float of a type.
func (x exact) float(typ int) api.Value {
	digits := 53
	if typ == f32 {
		digits = 24
	}
	w, drop := x.mag, max(0, x.mag.length()-digits)
	top := w.shr(drop)
	rest, half := w.lower(drop), wide{0, 1}.shl(max(0, drop-1))
	if c := rest.compare(half); drop > 0 && (c > 0 || c == 0 && top.lo&1 == 1) {
		top.lo++
	}
	r := math.Ldexp(float64(top.lo), drop)
	if x.neg {
		r = -r
	}
	if typ == f32 {
		return single().value(narrow(r))
	}
	return double().value(r)
}
