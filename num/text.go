package num

import (
	"math"
	"strconv"
	"strings"

	"hackamore/api"
)

// maxText is how many bytes the text of a number may have.
const maxText = 400

// Text returns the text of a number.
func Text(v api.Value) (string, api.Errno) {
	if e := Check(v); e != api.OK {
		return "", e
	}
	switch v.Kind {
	case api.ValBool:
		return strconv.FormatBool(v.Lo == 1), api.OK
	case api.ValNumber + f32:
		return floatText(float64(single().of(v)), 32), api.OK
	case api.ValNumber + f64:
		return floatText(double().of(v), 64), api.OK
	}
	x := exactly(v)
	if x.neg {
		return "-" + x.mag.text(), api.OK
	}
	return x.mag.text(), api.OK
}

// floatText returns the text of a float of a number of bits.
func floatText(x float64, bits int) string {
	switch {
	case math.IsNaN(x):
		return "nan"
	case math.IsInf(x, 1):
		return "inf"
	case math.Signbit(x):
		return "-" + floatText(-x, bits)
	case x == 0:
		return "0.0"
	}
	return shifted(shortest(x, bits))
}

// shortest returns the digits of a number above 0, and the power by which 0.digits is to be multiplied.
func shortest(x float64, bits int) (digits string, power int) {
	mantissa, exponent, _ := strings.Cut(strconv.FormatFloat(x, 'e', -1, bits), "e")
	power, _ = strconv.Atoi(exponent)
	return strings.TrimRight(strings.Replace(mantissa, ".", "", 1), "0"), power + 1
}

// shifted returns 0.digits, shifted by a power of ten.
func shifted(digits string, power int) string {
	switch {
	case power < -3 || power > 15:
		return point(digits, 1) + "e" + strconv.Itoa(power-1)
	case power <= 0:
		return "0." + strings.Repeat("0", -power) + digits
	}
	return point(digits, power)
}

// point puts a point behind the first digits, of which there is one at least; one digit at least stands behind it.
func point(digits string, at int) string {
	digits += strings.Repeat("0", max(0, at+1-len(digits)))
	return digits[:at] + "." + digits[at:]
}

// Parse returns the number of a type with a text.
func Parse(typ, s string) (api.Value, api.Errno) {
	i, ok := find(typ)
	switch {
	case !ok:
		return api.Value{}, api.ErrNone
	case len(s) > maxText:
		return api.Value{}, api.ErrLarge
	case isFloat(i):
		return parseFloat(i, s)
	}
	digits, neg := strings.CutPrefix(s, "-")
	if !isDigits(digits) {
		return api.Value{}, api.ErrForm
	}
	x := magnitude(digits)
	x.neg = neg && (x.over || x.mag != wide{})
	if !x.fits(i) {
		return api.Value{}, api.ErrRange
	}
	return x.wrapped(i), api.OK
}

func isDigits(s string) bool { return s != "" && strings.Trim(s, "0123456789") == "" }

// magnitude returns the number that decimal digits mean.
func magnitude(digits string) exact {
	var x exact
	for i := range len(digits) {
		tens, over := x.mag.mul(wide{0, 10})
		sum, carry := tens.add(wide{0, uint64(digits[i] - '0')})
		x = exact{mag: sum, over: x.over || over || carry}
	}
	return x
}

func parseFloat(typ int, s string) (api.Value, api.Errno) {
	if !isFloatText(s) {
		return api.Value{}, api.ErrForm
	}
	x, _ := strconv.ParseFloat(s, size(typ)) // beyond the greatest it is infinite, with an error
	if typ == f32 {
		return single().value(float32(x)), api.OK
	}
	return double().value(x), api.OK
}

func isFloatText(s string) bool {
	switch s {
	case "nan", "inf", "-inf":
		return true
	}
	s, exponent, has := strings.Cut(strings.TrimPrefix(s, "-"), "e")
	if has && strings.TrimLeft(exponent, "+-") != exponent {
		exponent = exponent[1:]
	}
	whole, fraction, pointed := strings.Cut(s, ".")
	return isDigits(whole) && (!pointed || isDigits(fraction)) && (!has || isDigits(exponent))
}
