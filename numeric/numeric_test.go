package numeric_test

import (
	"math"
	"slices"
	"testing"

	"hackamore/api"
	"hackamore/internal/sample"
	. "hackamore/numeric"
)

const nan = 0x7fc00000

func of(re, im float32) Number { return Of(re, im) }

// ints returns the numbers whose first parts are integers.
func ints(l ...int) []Number {
	var out []Number
	for _, x := range l {
		out = append(out, of(float32(x), 0))
	}
	return out
}

// equal reports whether two numbers have equal values (not bits: 0 is -0).
func equal(x, y Number) bool {
	a, b := x.Parts()
	c, d := y.Parts()
	return a == c && b == d
}

func equalAll(l, m []Number) bool { return slices.EqualFunc(l, m, equal) }

// strangeBits returns bits of all kinds of floats, those that are not numbers among them.
func strangeBits() []uint32 {
	inf := math.Float32bits(float32(math.Inf(1)))
	return []uint32{0, 1 << 31, 1, 1<<31 | 1, 0x007fffff, 0x00800000, 0x3f800000, 0xbf800000, 0x7f7fffff, 0xff7fffff, inf, inf | 1<<31, nan, 0xffc00000, 0x7f800001, 0xff800001, 0x7fffffff,
		math.Float32bits(0.1), math.Float32bits(-3.5), math.Float32bits(1e30), math.Float32bits(-1e-30)}
}

func clean(bits uint32) uint32 {
	if math.Float32frombits(bits) != math.Float32frombits(bits) {
		return nan
	}
	return bits
}

// wide has parts in float64: of one operation of float32 the result that is rounded twice is the one that is rounded once.
type wide struct{ re, im float32 }

func round(x float64) float32 { return float32(x) }

func sum(x, y float32) float32 { return round(float64(x) + float64(y)) }

func difference(x, y float32) float32 { return round(float64(x) - float64(y)) }

func times(x, y float32) float32 { return round(float64(x) * float64(y)) }

func over(x, y float32) float32 { return round(float64(x) / float64(y)) }

func (x wide) number() Number {
	return Number{clean(math.Float32bits(x.re)), clean(math.Float32bits(x.im))}
}

// checkArithmetic holds the operations against their formulas.
func checkArithmetic(t *testing.T, x, y Number) {
	t.Helper()
	a, b := x.Parts()
	c, d := y.Parts()
	n := sum(times(c, c), times(d, d))
	for _, r := range []struct {
		name string
		got  Number
		want wide
	}{
		{"Add", Add(x, y), wide{sum(a, c), sum(b, d)}},
		{"Sub", Sub(x, y), wide{difference(a, c), difference(b, d)}},
		{"Mul", Mul(x, y), wide{difference(times(a, c), times(b, d)), sum(times(a, d), times(b, c))}},
		{"Div", Div(x, y), wide{over(sum(times(a, c), times(b, d)), n), over(difference(times(b, c), times(a, d)), n)}},
		{"Conj", Conj(x), wide{a, float32(math.Copysign(float64(b), math.Copysign(1, -float64(b))))}},
	} {
		if r.got != r.want.number() {
			t.Fatalf("%s of %x and %x is %x, not %x", r.name, x, y, r.got, r.want.number())
		}
	}
	if want := clean(math.Float32bits(float32(math.Sqrt(float64(a)*float64(a) + float64(b)*float64(b))))); Abs(x) != want {
		t.Fatalf("Abs of %x is %x, not %x", x, Abs(x), want)
	}
}

// TestArithmetic checks P16.1 for all kinds of floats, and for some by chance.
func TestArithmetic(t *testing.T) {
	l := strangeBits()
	for _, a := range l {
		for _, b := range l {
			for _, c := range l {
				for _, d := range l {
					checkArithmetic(t, Number{a, b}, Number{c, d})
				}
			}
		}
	}
	pick := sample.Source(1)
	bits := func() uint32 {
		if pick(4) == 0 {
			return uint32(pick(1<<31))<<1 | uint32(pick(2))
		}
		return math.Float32bits(float32(pick(4001)-2000) / float32(1+pick(50)))
	}
	for range 100000 {
		checkArithmetic(t, Number{bits(), bits()}, Number{bits(), bits()})
	}
}

func TestOf(t *testing.T) {
	for _, b := range strangeBits() {
		x := math.Float32frombits(b)
		if got := Of(x, 1); got != (Number{clean(b), 0x3f800000}) {
			t.Errorf("Of(%x, 1) is %x", b, got)
		}
		re, im := Number{0x40000000, b}.Parts()
		if math.Float32bits(re) != 0x40000000 || math.Float32bits(im) != clean(b) {
			t.Errorf("Parts of %x: %v, %v", b, re, im)
		}
	}
}

func TestExamples(t *testing.T) {
	if got := Mul(of(1, 2), of(3, -1)); got != of(5, 5) {
		t.Errorf("Mul: %v", got)
	}
	if got := Abs(of(3, 4)); got != math.Float32bits(5) {
		t.Errorf("Abs: %x", got)
	}
	for want, l := range map[[4]Number][]Number{
		{of(1, 0), of(1, 0), of(1, 0), of(1, 0)}:   ints(1, 0, 0, 0),
		{of(1, 0), of(0, -1), of(-1, 0), of(0, 1)}: ints(0, 1, 0, 0),
	} {
		if got, e := Transform(l, false); e != api.OK || !equalAll(got, want[:]) {
			t.Errorf("Transform of %v: %v, error %d", l, got, e)
		}
	}
}

// TestAbs: the squares and their sum are F64, which never is too large; the root may be.
func TestAbs(t *testing.T) {
	const most = 0x7f7fffff
	for x, want := range map[Number]uint32{
		{most, 0}: most, {most, most}: 0x7f800000, {0, 0}: 0, {1 << 31, 1 << 31}: 0, {0x7f800000, nan}: nan, {0xff800000, 0}: 0x7f800000,
		{1, 0}: 1, {1, 1}: 1, {math.Float32bits(1e-30), 0}: math.Float32bits(1e-30), {math.Float32bits(3e30), math.Float32bits(4e30)}: math.Float32bits(5e30),
		{most, 0x79000000}: most, {most, 0x79800000}: 0x7f800000,
	} {
		a, b := x.Parts()
		exact := math.Hypot(float64(a), float64(b))
		if got := Abs(x); got != want {
			t.Errorf("Abs of %x is %x, not %x (%v)", x, got, want, exact)
		}
	}
}

// TestConj: the sign bit of the second part is turned.
func TestConj(t *testing.T) {
	for x, want := range map[Number]Number{{0, 0}: {0, 1 << 31}, {5, 1 << 31}: {5, 0}, {nan, nan}: {nan, nan}, {0xffc00001, 0xff800001}: {nan, nan}, {0, 0x7f800000}: {0, 0xff800000}} {
		if got := Conj(x); got != want {
			t.Errorf("Conj of %x is %x", x, got)
		}
	}
}

// small returns numbers whose parts are integers up to 1000.
func small(pick func(int) int) Number {
	return of(float32(pick(2001)-1000), float32(pick(2001)-1000))
}

// TestSmallIntegers checks P16.2.
func TestSmallIntegers(t *testing.T) {
	pick := sample.Source(2)
	for range 20000 {
		x, y, z := small(pick), small(pick), small(pick)
		a, b := x.Parts()
		c, d := y.Parts()
		p, q := int(a)*int(c)-int(b)*int(d), int(a)*int(d)+int(b)*int(c)
		if !equal(Mul(x, y), of(float32(p), float32(q))) || int(float32(p)) != p || int(float32(q)) != q {
			t.Fatalf("Mul of %v and %v", x, y)
		}
		if !equal(Add(x, y), of(a+c, b+d)) || !equal(Sub(x, y), of(a-c, b-d)) {
			t.Fatalf("Add, Sub of %v and %v", x, y)
		}
		if Mul(x, y) != Mul(y, x) || Add(x, y) != Add(y, x) || !equal(Mul(x, Add(y, z)), Add(Mul(x, y), Mul(x, z))) {
			t.Fatalf("%v, %v, %v: not commutative, or not distributive", x, y, z)
		}
		if _, im := Mul(x, Conj(x)).Parts(); im != 0 {
			t.Fatalf("%v times its Conj has %v", x, im)
		}
	}
}
