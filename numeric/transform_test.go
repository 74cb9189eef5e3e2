package numeric_test

import (
	"math"
	"math/cmplx"
	"slices"
	"testing"

	"hackamore/api"
	"hackamore/internal/sample"
	. "hackamore/numeric"
)

var lengths = []int{1, 2, 4, 8, 16, 32, 64}

var wrongLengths = []int{-64, -1, 0, 3, 5, 6, 12, 63, 65, 96, 127, 128, 256}

func TestTwiddles(t *testing.T) {
	for n, want := range map[int][]Number{
		1: {of(1, 0)}, 2: {of(1, 0), {0xbf800000, 1 << 31}}, 4: {of(1, 0), {0, 0xbf800000}, {0xbf800000, 1 << 31}, {1 << 31, 0x3f800000}},
	} {
		got, e := Twiddles(n)
		if e != api.OK || n < 4 && !slices.Equal(got, want) || !equalAll(got, want) {
			t.Errorf("%d: %x, error %d", n, got, e)
		}
	}
	for _, n := range lengths {
		l, e := Twiddles(n)
		if e != api.OK || len(l) != n || l[0] != of(1, 0) {
			t.Fatalf("%d: %v, error %d", n, l, e)
		}
		for m := range l {
			if m > 1 && l[m] != Mul(l[m-1], l[1]) {
				t.Errorf("%d: the factor %d is no product", n, m)
			}
			re, im := l[m].Parts()
			if want := cmplx.Exp(complex(0, -2*math.Pi*float64(m)/float64(n))); cmplx.Abs(want-complex(float64(re), float64(im))) > 1e-5 {
				t.Errorf("%d: the factor %d is %v, not %v", n, m, l[m], want)
			}
		}
		if n > 4 {
			want := of(float32(math.Cos(2*math.Pi/float64(n))), -float32(math.Sin(2*math.Pi/float64(n))))
			if near := func(a, b uint32) bool { return max(a, b)-min(a, b) <= 1 }; !near(l[1].Re, want.Re) || !near(l[1].Im, want.Im) {
				t.Errorf("%d: the first factor is %x, not %x", n, l[1], want)
			}
		}
	}
	for _, n := range wrongLengths {
		if l, e := Twiddles(n); e != api.ErrSize || len(l) > 0 {
			t.Errorf("%d: %v, error %d", n, l, e)
		}
	}
}

// TestFirstFactors: the F64 numbers are those of half as many points, not rounded in between.
func TestFirstFactors(t *testing.T) {
	c := 0.0
	for n := 8; n <= 64; n *= 2 {
		s := math.Sqrt((1 - c) / 2)
		c = math.Sqrt((1 + c) / 2)
		if l, _ := Twiddles(n); l[1] != of(float32(c), -float32(s)) {
			t.Errorf("%d: %x", n, l[1])
		}
	}
}

func list(pick func(int) int, n int) []Number {
	var l []Number
	for range n {
		l = append(l, small(pick))
	}
	return l
}

// formula is Transform as the chapter tells it.
func formula(l []Number) []Number {
	n := len(l)
	if n == 1 {
		return []Number{{clean(l[0].Re), clean(l[0].Im)}}
	}
	var even, odd []Number
	for i, x := range l {
		if i%2 == 0 {
			even = append(even, x)
		} else {
			odd = append(odd, x)
		}
	}
	even, odd = formula(even), formula(odd)
	w, _ := Twiddles(n)
	out := make([]Number, n)
	for k := range n / 2 {
		x := Mul(w[k], odd[k])
		out[k], out[k+n/2] = Add(even[k], x), Sub(even[k], x)
	}
	return out
}

func conjAll(l []Number) []Number {
	var out []Number
	for _, x := range l {
		out = append(out, Conj(x))
	}
	return out
}

// TestTransform checks P16.1 bit by bit, and against the sums by which transforms are defined.
func TestTransform(t *testing.T) {
	pick, bits := sample.Source(6), strangeBits()
	for range 300 {
		n := lengths[pick(len(lengths))]
		l := list(pick, n)
		if pick(3) == 0 {
			for i := range l {
				if pick(4) == 0 {
					l[i] = Number{bits[pick(len(bits))], bits[pick(len(bits))]}
				}
			}
		}
		got, e := Transform(l, false)
		if e != api.OK || !slices.Equal(got, formula(l)) {
			t.Fatalf("of %x: %x, error %d", l, got, e)
		}
		want := conjAll(formula(conjAll(l)))
		for i, x := range want {
			re, im := x.Parts()
			want[i] = of(over(re, float32(n)), over(im, float32(n)))
		}
		if got, e := Transform(l, true); e != api.OK || !slices.Equal(got, want) {
			t.Fatalf("the inverse of %x: %x, error %d", l, got, e)
		}
	}
	for _, n := range lengths {
		l := list(pick, n)
		got, _ := Transform(l, false)
		for k := range got {
			sum := complex(0, 0)
			for i, x := range l {
				re, im := x.Parts()
				sum += complex(float64(re), float64(im)) * cmplx.Exp(complex(0, -2*math.Pi*float64(i*k)/float64(n)))
			}
			if re, im := got[k].Parts(); cmplx.Abs(sum-complex(float64(re), float64(im))) > 0.1 {
				t.Errorf("%d points: %d is %v, not %v", n, k, got[k], sum)
			}
		}
	}
	for _, n := range wrongLengths[2:] {
		for _, inverse := range []bool{false, true} {
			if l, e := Transform(make([]Number, n), inverse); e != api.ErrSize || len(l) > 0 {
				t.Errorf("%d points: %v, error %d", n, l, e)
			}
		}
		if l, e := Spectrum(make([]uint32, n)); e != api.ErrSize || len(l) > 0 {
			t.Errorf("the spectrum of %d points: %v, error %d", n, l, e)
		}
	}
	if _, e := Transform(nil, false); e != api.ErrSize {
		t.Errorf("no points: error %d", e)
	}
}

func turned[A any](l []A) []A {
	return append([]A{l[len(l)-1]}, l[:len(l)-1]...)
}

// TestTransformLaws checks P16.3.
func TestTransformLaws(t *testing.T) {
	pick := sample.Source(7)
	for range 3000 {
		n := []int{1, 2, 4}[pick(3)]
		l, m := list(pick, n), list(pick, n)
		a, _ := Transform(l, false)
		b, _ := Transform(m, false)
		if back, e := Transform(a, true); e != api.OK || !equalAll(back, l) {
			t.Fatalf("of %v and back: %v, error %d", l, back, e)
		}
		var sum, sums, factors []Number
		w, _ := Twiddles(n)
		for i := range l {
			sum = append(sum, Add(l[i], m[i]))
			sums = append(sums, Add(a[i], b[i]))
			factors = append(factors, Mul(a[i], w[i]))
		}
		if got, _ := Transform(sum, false); !equalAll(got, sums) {
			t.Fatalf("of the sum of %v and %v: %v", l, m, got)
		}
		if got, _ := Transform(turned(l), false); !equalAll(got, factors) {
			t.Fatalf("of %v, turned: %v, not %v", l, got, factors)
		}
	}
}

func TestSpectrum(t *testing.T) {
	bits := func(l ...float32) []uint32 {
		var out []uint32
		for _, x := range l {
			out = append(out, math.Float32bits(x))
		}
		return out
	}
	for i, c := range []struct{ l, want []uint32 }{
		{bits(3), bits(9)}, {bits(1, 2), bits(9, 1)}, {bits(1, 0, 0, 0), bits(1, 1, 1)}, {bits(1, 2, 3, 4), bits(100, 8, 4)}, {[]uint32{0xff800001}, []uint32{nan}},
		{[]uint32{0x7f800000, 0}, []uint32{0x7f800000, 0x7f800000}}, {bits(1e30, 0), []uint32{0x7f800000, 0x7f800000}}, {[]uint32{1 << 31, 1 << 31}, bits(0, 0)},
	} {
		if got, e := Spectrum(c.l); e != api.OK || !slices.Equal(got, c.want) {
			t.Errorf("%d: %x, error %d", i, got, e)
		}
	}
	pick := sample.Source(8)
	for _, n := range lengths {
		var l []uint32
		var points []Number
		for range n {
			x := float32(pick(2001)-1000) / 7
			l, points = append(l, math.Float32bits(x)), append(points, of(x, 0))
		}
		got, e := Spectrum(l)
		transform, _ := Transform(points, false)
		if e != api.OK || len(got) != n/2+1 {
			t.Fatalf("%d points: %d, error %d", n, len(got), e)
		}
		for k := range got {
			a, b := transform[k].Parts()
			if got[k] != math.Float32bits(sum(times(a, a), times(b, b))) {
				t.Errorf("%d points: %d is %x", n, k, got[k])
			}
		}
	}
}

// TestSpectrumTurned checks P16.5.
func TestSpectrumTurned(t *testing.T) {
	pick := sample.Source(9)
	for range 2000 {
		var l []uint32
		for range []int{1, 2, 4}[pick(3)] {
			l = append(l, math.Float32bits(float32(pick(2001)-1000)))
		}
		a, _ := Spectrum(l)
		b, e := Spectrum(turned(l))
		if e != api.OK || !slices.Equal(a, b) {
			t.Fatalf("%x: %x and %x, error %d", l, a, b, e)
		}
	}
}
