package numeric_test

import (
	"slices"
	"testing"

	"hackamore/api"
	"hackamore/internal/sample"
	. "hackamore/numeric"
)

func TestPolynomial(t *testing.T) {
	for i, c := range []struct {
		l       []Number
		x, want Number
	}{
		{nil, of(3, 4), of(0, 0)}, {[]Number{}, Number{nan, nan}, of(0, 0)}, {ints(7), of(2, 0), of(7, 0)}, {ints(1, 2, 3), of(2, 0), of(17, 0)},
		{ints(1, 0, 1), of(0, 1), of(0, 0)}, {[]Number{{0xffc00001, 5}}, of(0, 0), Number{nan, 5}}, {[]Number{{1 << 31, 1 << 31}}, of(1, 0), Number{1 << 31, 1 << 31}},
		{ints(0, 0, 0, 1), of(0, 1), of(0, -1)},
	} {
		if got := Polynomial(c.l, c.x); !equal(got, c.want) && got != c.want {
			t.Errorf("%d: %v", i, got)
		}
	}
	long := make([]Number, 1000)
	for i := range long {
		long[i] = of(1, 0)
	}
	if got := Polynomial(long, of(1, 0)); got != of(1000, 0) {
		t.Errorf("a long one: %v", got)
	}
}

// TestPolynomialFormula holds it against steps of Add and Mul, for any bits.
func TestPolynomialFormula(t *testing.T) {
	pick, bits := sample.Source(3), strangeBits()
	strange := func() Number { return Number{bits[pick(len(bits))], bits[pick(len(bits))]} }
	for range 3000 {
		var l []Number
		for range 1 + pick(5) {
			l = append(l, strange())
		}
		x, want := strange(), Number{clean(l[len(l)-1].Re), clean(l[len(l)-1].Im)}
		for i := len(l) - 2; i >= 0; i-- {
			want = Add(l[i], Mul(x, want))
		}
		if got := Polynomial(l, x); got != want {
			t.Fatalf("of %x at %x: %x, not %x", l, x, got, want)
		}
	}
}

func TestProduct(t *testing.T) {
	for i, c := range []struct {
		a, b, want []Number
		e          api.Errno
	}{
		{ints(1, 1), ints(1, 1), ints(1, 2, 1), api.OK}, {nil, nil, nil, api.OK}, {nil, ints(1), nil, api.OK}, {nil, ints(1, 2, 3), nil, api.OK}, {ints(1, 2), nil, nil, api.OK}, {ints(2), ints(3), ints(6), api.OK},
		{make([]Number, 65), ints(1), nil, api.ErrSize}, {ints(1), make([]Number, 65), nil, api.ErrSize}, {nil, make([]Number, 65), nil, api.ErrSize}, {make([]Number, 100), nil, nil, api.ErrSize},
		{make([]Number, 64), make([]Number, 64), make([]Number, 127), api.OK}, {[]Number{of(0, 1)}, []Number{of(0, 1), of(1, 0)}, []Number{of(-1, 0), of(0, 1)}, api.OK},
		{[]Number{{1 << 31, 1 << 31}}, ints(1), []Number{of(0, 0)}, api.OK}, // the sum begins with 0
	} {
		got, e := Product(c.a, c.b)
		if e != c.e || !equalAll(got, c.want) {
			t.Errorf("%d: %v, error %d", i, got, e)
		}
	}
	if got, _ := Product([]Number{{1 << 31, 1 << 31}}, ints(1)); got[0] != of(0, 0) {
		t.Errorf("-0 times 1: %x", got[0])
	}
}

// TestProductFormula: each coefficient is the sum by ascending indices, for any bits. (P16.1)
func TestProductFormula(t *testing.T) {
	pick, bits := sample.Source(4), strangeBits()
	list := func() []Number {
		var l []Number
		for range 1 + pick(5) {
			l = append(l, Number{bits[pick(len(bits))], bits[pick(len(bits))]})
		}
		return l
	}
	for range 3000 {
		a, b := list(), list()
		got, e := Product(a, b)
		if e != api.OK || len(got) != len(a)+len(b)-1 {
			t.Fatalf("%d coefficients, error %d", len(got), e)
		}
		for k := range got {
			want := of(0, 0)
			for i := range a {
				if j := k - i; j >= 0 && j < len(b) {
					want = Add(want, Mul(a[i], b[j]))
				}
			}
			if got[k] != want {
				t.Fatalf("%d of %x and %x: %x, not %x", k, a, b, got[k], want)
			}
		}
	}
}

// TestValues checks P16.4.
func TestValues(t *testing.T) {
	pick := sample.Source(5)
	list := func() []Number {
		var l []Number
		for range pick(4) {
			l = append(l, of(float32(pick(11)-5), float32(pick(11)-5)))
		}
		return l
	}
	for range 3000 {
		a, b, x := list(), list(), of(float32(pick(5)-2), float32(pick(5)-2))
		p, e := Product(a, b)
		if e != api.OK || !equal(Polynomial(p, x), Mul(Polynomial(a, x), Polynomial(b, x))) {
			t.Fatalf("%v, %v at %v, error %d", a, b, x, e)
		}
	}
}

// TestArguments: what is handed in stays, and again gives the same. (P2)
func TestArguments(t *testing.T) {
	l := []Number{{0xffc00001, 1}, of(1, 2), of(3, 4), of(5, 6)}
	kept := slices.Clone(l)
	for range 2 {
		Product(l, l)
		Polynomial(l, l[1])
		a, _ := Transform(l, false)
		b, _ := Transform(l, true)
		one, _ := Transform(l[1:2], false)
		one[0] = of(9, 9)
		if !slices.Equal(l, kept) || len(a) != 4 || len(b) != 4 {
			t.Fatalf("%v", l)
		}
	}
}
