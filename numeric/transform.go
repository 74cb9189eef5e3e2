package numeric

import (
	"iter"
	"math"
	"slices"

	"hackamore/api"
)

// isLength reports whether a transform may have so many points.
func isLength(n int) bool { return n >= 1 && n <= MaxPoints && n&(n-1) == 0 }

// Twiddles returns the factors of a transform.
func Twiddles(n int) ([]Number, api.Errno) {
	if !isLength(n) {
		return nil, api.ErrSize
	}
	return mapped(twiddles(n), number), api.OK
}

func twiddles(n int) []complex64 {
	c, s := turn(n)
	first := conjugate(complex(float32(c), float32(s)))
	l := []complex64{1, first}
	for len(l) < n {
		l = append(l, product(l[len(l)-1], first))
	}
	return l[:n]
}

// turn returns the cosine and the sine of the n-th part of a full turn.
func turn(n int) (c, s float64) {
	switch n {
	case 1:
		return 1, 0
	case 2:
		return -1, 0
	case 4:
		return 0, 1
	}
	c, _ = turn(n / 2)
	return math.Sqrt((1 + c) / 2), math.Sqrt((1 - c) / 2)
}

// transformer keeps the factors that it has computed, by the numbers of points.
type transformer struct{ factors map[int][]complex64 }

func newTransformer() transformer { return transformer{map[int][]complex64{}} }

func (t transformer) twiddles(n int) []complex64 {
	l, ok := t.factors[n]
	if !ok {
		l = twiddles(n)
		t.factors[n] = l
	}
	return l
}

// everySecond hands on the elements of a list from an index on, leaving out each second one.
func everySecond(l []complex64, from int) iter.Seq[complex64] {
	return func(yield func(complex64) bool) {
		for i := from; i < len(l); i += 2 {
			if !yield(l[i]) {
				return
			}
		}
	}
}

// of returns the transform of a list of a right length.
func (t transformer) of(l []complex64) []complex64 {
	n := len(l)
	if n == 1 {
		return l
	}
	even := t.of(slices.Collect(everySecond(l, 0)))
	odd := t.of(slices.Collect(everySecond(l, 1)))
	out := make([]complex64, n)
	for k, w := range t.twiddles(n)[:n/2] {
		turned := product(w, odd[k])
		out[k], out[k+n/2] = even[k]+turned, even[k]-turned
	}
	return out
}

// inverse returns the list that has a transform, as far as roundings let it.
func (t transformer) inverse(l []complex64) []complex64 {
	n := float32(len(l))
	return mapped(t.of(mapped(l, conjugate)), func(x complex64) complex64 {
		x = conjugate(x)
		return complex(real(x)/n, imag(x)/n)
	})
}

// Transform returns the discrete Fourier transform.
func Transform(l []Number, inverse bool) ([]Number, api.Errno) {
	if !isLength(len(l)) {
		return nil, api.ErrSize
	}
	t := newTransformer()
	transform := t.of
	if inverse {
		transform = t.inverse
	}
	return mapped(transform(mapped(l, Number.value)), number), api.OK
}

// Spectrum returns the bits of the powers of the first half of a transform.
func Spectrum(l []uint32) ([]uint32, api.Errno) {
	n := len(l)
	if !isLength(n) {
		return nil, api.ErrSize
	}
	points := mapped(l, func(bits uint32) complex64 { return complex(float(bits), 0) })
	out := newTransformer().of(points)[:n/2+1]
	return mapped(out, func(x complex64) uint32 { return bitsOf(power(x)) }), api.OK
}
