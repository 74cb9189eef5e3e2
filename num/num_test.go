package num

import (
	"math"
	"math/big"
	"math/rand"
	"reflect"
	"slices"
	"strconv"
	"strings"
	"testing"

	"hackamore/api"
)

func read(t *testing.T, typ, s string) api.Value {
	t.Helper()
	v, e := Parse(typ, s)
	if e != api.OK {
		t.Fatalf("Parse(%s, %s): error %d", typ, s, e)
	}
	return v
}

func isInteger(typ string) bool { return typ[0] != 'F' }

// ends are the least and the greatest number of a type of integers.
func ends(typ string) (least, greatest *big.Int, bits uint) {
	i, _ := find(typ)
	bits = uint(size(i))
	one := big.NewInt(1)
	if typ[0] == 'U' {
		return big.NewInt(0), new(big.Int).Sub(new(big.Int).Lsh(one, bits), one), bits
	}
	half := new(big.Int).Lsh(one, bits-1)
	return new(big.Int).Neg(half), new(big.Int).Sub(half, one), bits
}

// wrap returns the number of a type that differs by a multiple of 2^bits.
func wrap(typ string, x *big.Int) *big.Int {
	least, greatest, bits := ends(typ)
	all := new(big.Int).Lsh(big.NewInt(1), bits)
	r := new(big.Int).Mod(x, all)
	if r.Cmp(greatest) > 0 {
		r.Sub(r, all)
	}
	if r.Cmp(least) < 0 {
		panic("wrap")
	}
	return r
}

func isOf(typ string, x *big.Int) bool {
	least, greatest, _ := ends(typ)
	return x.Cmp(least) >= 0 && x.Cmp(greatest) <= 0
}

func asBig(t *testing.T, v api.Value) *big.Int {
	t.Helper()
	s, e := Text(v)
	x, ok := new(big.Int).SetString(s, 10)
	if e != api.OK || !ok {
		t.Fatalf("Text of %v: %q, error %d", v, s, e)
	}
	return x
}

// anyInt returns numbers of a type by chance, often near its ends or 0.
func anyInt(r *rand.Rand, typ string) *big.Int {
	least, greatest, bits := ends(typ)
	x := new(big.Int)
	switch r.Intn(4) {
	case 0:
		x.SetInt64(int64(r.Intn(7) - 3))
	case 1:
		x.Sub(greatest, big.NewInt(int64(r.Intn(3))))
	case 2:
		x.Add(least, big.NewInt(int64(r.Intn(3))))
	default:
		x.Rand(r, new(big.Int).Lsh(big.NewInt(1), 1+uint(r.Intn(int(bits)))))
	}
	return wrap(typ, x)
}

// model computes a method of two integers: the exact result, and whether a partial one raises for another reason.
func model(method string, x, y *big.Int) (*big.Int, bool) {
	r := new(big.Int)
	switch method {
	case "add":
		r.Add(x, y)
	case "sub":
		r.Sub(x, y)
	case "mul":
		r.Mul(x, y)
	case "div", "rem":
		if y.Sign() == 0 {
			return r, true
		}
		q, rest := new(big.Int).QuoRem(x, y, new(big.Int))
		if method == "div" {
			return q, false
		}
		return rest, false
	}
	return r, false
}

// TestIntegers checks P15.1, P15.2 and P15.3 against big numbers.
func TestIntegers(t *testing.T) {
	r := rand.New(rand.NewSource(1))
	for _, typ := range Types() {
		if !isInteger(typ) {
			continue
		}
		for range 1500 {
			x, y := anyInt(r, typ), anyInt(r, typ)
			vx, vy := read(t, typ, x.String()), read(t, typ, y.String())
			for _, m := range []string{"add", "sub", "mul", "div", "rem"} {
				exact, wrong := model(m, x, y)
				got, raised, e := Call(typ, m, []api.Value{vx, vy})
				if e != api.OK || raised || asBig(t, got).Cmp(wrap(typ, exact)) != 0 {
					t.Fatalf("%s %s(%v, %v): %v, error %d", typ, m, x, y, asBig(t, got), e)
				}
				if q, _ := model("div", x, y); m == "rem" {
					wrong = wrong || !isOf(typ, q)
				}
				wrong = wrong || !isOf(typ, exact)
				got, raised, e = Call(typ, m+"_partial", []api.Value{vx, vy})
				if e != api.OK || raised != wrong || raised && !reflect.DeepEqual(got, api.Value{}) || !raised && asBig(t, got).Cmp(exact) != 0 {
					t.Fatalf("%s %s_partial(%v, %v): %v, raised %v, error %d", typ, m, x, y, got, raised, e)
				}
			}
			checkOrder(t, typ, vx, vy, x.Cmp(y))
			checkBits(t, typ, x, y, vx, vy)
			checkConversions(t, typ, x, vx)
		}
	}
}

func truth(t *testing.T, typ, method string, args ...api.Value) bool {
	t.Helper()
	v, raised, e := Call(typ, method, args)
	if e != api.OK || raised || v.Kind != api.ValBool || Check(v) != api.OK {
		t.Fatalf("%s %s: %v, %v, error %d", typ, method, v, raised, e)
	}
	return v.Lo == 1
}

func result(t *testing.T, typ, method string, args ...api.Value) api.Value {
	t.Helper()
	v, raised, e := Call(typ, method, args)
	if e != api.OK || raised || Check(v) != api.OK {
		t.Fatalf("%s %s of %v: %v, %v, error %d", typ, method, args, v, raised, e)
	}
	return v
}

// checkOrder checks P15.4: c is how x and y compare, 2 if one of them is not a number.
func checkOrder(t *testing.T, typ string, x, y api.Value, c int) {
	t.Helper()
	for m, want := range map[string]bool{"eq": c == 0, "ne": c != 0, "lt": c == -1, "le": c == -1 || c == 0, "gt": c == 1, "ge": c == 1 || c == 0} {
		if truth(t, typ, m, x, y) != want {
			t.Fatalf("%s %s(%v, %v) is not %v", typ, m, x, y, want)
		}
	}
	yNaN := !truth(t, typ, "eq", y, y)
	least, greatest := y, y
	if c == -1 || c == 0 || yNaN {
		least = x
	}
	if c == 1 || c == 0 || yNaN {
		greatest = x
	}
	if !reflect.DeepEqual(result(t, typ, "min", x, y), least) || !reflect.DeepEqual(result(t, typ, "max", x, y), greatest) {
		t.Fatalf("%s min, max of %v, %v", typ, x, y)
	}
}

func checkBits(t *testing.T, typ string, x, y *big.Int, vx, vy api.Value) {
	t.Helper()
	_, _, bits := ends(typ)
	full := new(big.Int).Lsh(big.NewInt(1), bits)
	raw := new(big.Int).Mod(x, full)
	rawY := new(big.Int).Mod(y, full)
	shl, shr := new(big.Int), new(big.Int)
	if rawY.Cmp(big.NewInt(int64(bits))) < 0 {
		shl.Lsh(x, uint(rawY.Int64()))
		shr.Rsh(x, uint(rawY.Int64()))
	} else if x.Sign() < 0 {
		shr.SetInt64(-1)
	}
	ones, ctz := 0, int(bits)
	for i := int(bits) - 1; i >= 0; i-- {
		if raw.Bit(i) == 1 {
			ones++
			ctz = i
		}
	}
	for m, want := range map[string]*big.Int{"op_and": new(big.Int).And(x, y), "op_or": new(big.Int).Or(x, y), "op_xor": new(big.Int).Xor(x, y), "shl": shl, "shr": shr} {
		if got := asBig(t, result(t, typ, m, vx, vy)); got.Cmp(wrap(typ, want)) != 0 {
			t.Fatalf("%s %s(%v, %v): %v, want %v", typ, m, x, y, got, want)
		}
	}
	for m, want := range map[string]*big.Int{"op_not": new(big.Int).Not(x), "neg": new(big.Int).Neg(x), "abs": new(big.Int).Abs(x), "popcount": big.NewInt(int64(ones)), "ctz": big.NewInt(int64(ctz)), "clz": big.NewInt(int64(int(bits) - raw.BitLen()))} {
		if got := asBig(t, result(t, typ, m, vx)); got.Cmp(wrap(typ, want)) != 0 {
			t.Fatalf("%s %s(%v): %v, want %v", typ, m, x, got, want)
		}
	}
	twice := result(t, typ, "shl", result(t, typ, "op_and", vx, vy), read(t, typ, "1"))
	if !reflect.DeepEqual(result(t, typ, "add", vx, vy), result(t, typ, "add", result(t, typ, "op_xor", vx, vy), twice)) {
		t.Fatalf("%s: %v, %v", typ, x, y)
	}
}

func checkConversions(t *testing.T, typ string, x *big.Int, vx api.Value) {
	t.Helper()
	for _, to := range Types() {
		got := result(t, typ, strings.ToLower(to), vx)
		switch {
		case isInteger(to):
			if asBig(t, got).Cmp(wrap(to, x)) != 0 {
				t.Fatalf("%s %v to %s: %v", typ, x, to, asBig(t, got))
			}
			if isOf(to, x) && !reflect.DeepEqual(result(t, to, strings.ToLower(typ), got), vx) {
				t.Fatalf("%s %v to %s and back", typ, x, to)
			}
		case to == "F64":
			want, _ := new(big.Float).SetInt(x).Float64()
			if math.Float64frombits(got.Lo) != want {
				t.Fatalf("%s %v to F64: %v, want %v", typ, x, math.Float64frombits(got.Lo), want)
			}
		default:
			want, _ := new(big.Float).SetInt(x).Float32()
			if math.Float32frombits(uint32(got.Lo)) != want {
				t.Fatalf("%s %v to F32: %v, want %v", typ, x, math.Float32frombits(uint32(got.Lo)), want)
			}
		}
	}
	s, _ := Text(vx)
	if back := read(t, typ, s); !reflect.DeepEqual(back, vx) || s != x.String() {
		t.Fatalf("%s %v: the text %s", typ, x, s)
	}
}

func float(typ string, x float64) api.Value {
	if typ == "F32" {
		return single().value(float32(x))
	}
	return double().value(x)
}

func goFloat(v api.Value) float64 {
	if v.Kind == api.ValNumber+f32 {
		return float64(math.Float32frombits(uint32(v.Lo)))
	}
	return math.Float64frombits(v.Lo)
}

func anyFloat(r *rand.Rand, typ string) api.Value {
	special := []float64{0, math.Copysign(0, -1), math.Inf(1), math.Inf(-1), math.NaN(), 1, -1, 0.5, 1.5, 2.5, -2.5, math.MaxFloat64, math.SmallestNonzeroFloat64, math.MaxFloat32, math.SmallestNonzeroFloat32, 255, 256, -129, 1 << 63, 1 << 64, -(1 << 63), 0x1p127, 0x1p128, 1e20, 0.1}
	switch r.Intn(4) {
	case 0:
		return float(typ, special[r.Intn(len(special))])
	case 1:
		return float(typ, float64(r.Intn(2000)-1000)/8)
	case 2:
		return float(typ, r.NormFloat64()*math.Pow(10, float64(r.Intn(60)-20)))
	}
	if typ == "F32" {
		return single().value(math.Float32frombits(r.Uint32()))
	}
	return double().value(math.Float64frombits(r.Uint64()))
}

// rounded is a float64 as a float of a type.
func rounded(typ string, x float64) float64 {
	if typ == "F32" {
		return float64(float32(x))
	}
	return x
}

func same(x, y float64) bool {
	return math.Float64bits(x) == math.Float64bits(y) || x != x && y != y
}

// TestFloats checks P15.1 to P15.4 for floats: two roundings of sums, products and quotients of F32 are one.
func TestFloats(t *testing.T) {
	r := rand.New(rand.NewSource(2))
	for _, typ := range []string{"F32", "F64"} {
		for range 4000 {
			vx, vy := anyFloat(r, typ), anyFloat(r, typ)
			x, y := goFloat(vx), goFloat(vy)
			for m, want := range map[string]float64{"add": x + y, "sub": x - y, "mul": x * y, "div": x / y, "rem": math.Mod(x, y)} {
				want = rounded(typ, want)
				if got := goFloat(result(t, typ, m, vx, vy)); !same(got, want) {
					t.Fatalf("%s %s(%v, %v): %v, want %v", typ, m, x, y, got, want)
				}
				v, raised, e := Call(typ, m+"_partial", []api.Value{vx, vy})
				wrong := math.IsNaN(want) || math.IsInf(want, 0)
				if e != api.OK || raised != wrong || !raised && !same(goFloat(v), want) || raised && !reflect.DeepEqual(v, api.Value{}) {
					t.Fatalf("%s %s_partial(%v, %v): %v, raised %v, error %d", typ, m, x, y, v, raised, e)
				}
			}
			c := 2
			switch {
			case x < y:
				c = -1
			case x > y:
				c = 1
			case x == y:
				c = 0
			}
			checkOrder(t, typ, vx, vy, c)
			for m, want := range map[string]float64{"neg": -x, "abs": math.Abs(x), "sqrt": math.Sqrt(x), "floor": math.Floor(x), "ceil": math.Ceil(x), "trunc": math.Trunc(x), "round": math.Round(x)} {
				if got := goFloat(result(t, typ, m, vx)); !same(got, rounded(typ, want)) {
					t.Fatalf("%s %s(%v): %v, want %v", typ, m, x, got, want)
				}
			}
			if truth(t, typ, "nan", vx) != math.IsNaN(x) || truth(t, typ, "finite", vx) != (!math.IsNaN(x) && !math.IsInf(x, 0)) {
				t.Fatalf("%s nan, finite of %v", typ, x)
			}
			checkFloatConversions(t, typ, x, vx)
			checkFloatText(t, typ, vx)
		}
	}
}

func checkFloatConversions(t *testing.T, typ string, x float64, vx api.Value) {
	t.Helper()
	for _, to := range Types() {
		got := result(t, typ, strings.ToLower(to), vx)
		if !isInteger(to) {
			if !same(goFloat(got), rounded(to, x)) {
				t.Fatalf("%s %v to %s: %v", typ, x, to, goFloat(got))
			}
			continue
		}
		least, greatest, _ := ends(to)
		want := new(big.Int)
		switch {
		case math.IsNaN(x):
		case math.IsInf(x, 0):
			want = greatest
			if x < 0 {
				want = least
			}
		default:
			want, _ = new(big.Float).SetFloat64(x).Int(nil)
			if want.Cmp(least) < 0 {
				want = least
			}
			if want.Cmp(greatest) > 0 {
				want = greatest
			}
		}
		if asBig(t, got).Cmp(want) != 0 {
			t.Fatalf("%s %v to %s: %v, want %v", typ, x, to, asBig(t, got), want)
		}
	}
}

// checkFloatText checks P15.6, and that the digits are the fewest, the nearest ones, and the even ones of two.
func checkFloatText(t *testing.T, typ string, v api.Value) {
	t.Helper()
	s, e := Text(v)
	if e != api.OK || !reflect.DeepEqual(read(t, typ, s), v) {
		t.Fatalf("%s %v: the text %s", typ, goFloat(v), s)
	}
	x := math.Abs(goFloat(v))
	if x != x || x == 0 || math.IsInf(x, 0) {
		return
	}
	bits := 64
	if typ == "F32" {
		bits = 32
	}
	digits, power := shortest(x, bits)
	exact, _ := new(big.Rat).SetString(strconv.FormatFloat(x, 'e', 800, 64))
	for _, n := range []int{len(digits) - 1, len(digits)} {
		best := bestDigits(exact, n, power, typ, v)
		if n < len(digits) && best != "" || n == len(digits) && best != digits {
			t.Fatalf("%s %v: digits %s, but %s", typ, x, digits, best)
		}
	}
}

// bestDigits returns the nearest n digits that are read as a value, or none.
func bestDigits(exact *big.Rat, n, power int, typ string, v api.Value) string {
	if n == 0 {
		return ""
	}
	unit := new(big.Rat).SetInt(new(big.Int).Exp(big.NewInt(10), big.NewInt(int64(max(n-power, power-n))), nil))
	if power-n < 0 {
		unit.Inv(unit)
	}
	q := new(big.Rat).Quo(exact, unit)
	below := new(big.Int).Quo(q.Num(), q.Denom())
	best, bestGap := "", new(big.Rat)
	for _, d := range []int64{-1, 0, 1, 2} {
		c := new(big.Int).Add(below, big.NewInt(d))
		gap := new(big.Rat).Sub(q, new(big.Rat).SetInt(c))
		gap.Abs(gap)
		text := c.String()
		w, _ := Parse(typ, text+"e"+strconv.Itoa(power-n))
		if w.Lo != v.Lo&^(1<<31<<(32*uint(v.Kind-api.ValNumber-f32))) || c.Sign() <= 0 {
			continue
		}
		if k := gap.Cmp(bestGap); best == "" || k < 0 || k == 0 && c.Bit(0) == 0 {
			best, bestGap = text, gap
		}
	}
	return best
}

func TestTexts(t *testing.T) {
	for _, x := range [][3]string{
		{"F64", "0.001", "0.001"}, {"F64", "120", "120.0"}, {"F64", "1e20", "1.0e20"}, {"F64", "1.5e-7", "1.5e-7"}, {"F64", "0.0001", "0.0001"}, {"F64", "0.00001", "1.0e-5"}, {"F64", "1e14", "100000000000000.0"}, {"F64", "1e15", "1.0e15"},
		{"F64", "123456789012345", "123456789012345.0"}, {"F64", "1234567890123456", "1.234567890123456e15"}, {"F64", "0.5", "0.5"}, {"F64", "-0", "-0.0"}, {"F64", "0e9", "0.0"}, {"F64", "-1.50", "-1.5"}, {"F64", "nan", "nan"}, {"F64", "inf", "inf"},
		{"F64", "-inf", "-inf"}, {"F64", "1e400", "inf"}, {"F64", "-1e400", "-inf"}, {"F64", "1e-400", "0.0"}, {"F64", "1125899906842624.25", "1.1258999068426242e15"}, {"F64", "1125899906842624.75", "1.1258999068426248e15"}, {"F64", "5e-324", "5.0e-324"}, {"F64", "007.50e+001", "75.0"},
		{"F64", "1.7976931348623157e308", "1.7976931348623157e308"}, {"F32", "3.5e38", "inf"}, {"F32", "0.1", "0.1"}, {"F32", "16777217", "16777216.0"}, {"F32", "1e-45", "1.0e-45"}, {"F32", "8388608.5", "8388608.0"}, {"F32", "2097152.25", "2097152.2"},
		{"U8", "255", "255"}, {"U8", "-0", "0"}, {"U8", "007", "7"}, {"I8", "-128", "-128"}, {"U128", "340282366920938463463374607431768211455", "340282366920938463463374607431768211455"}, {"I128", "-170141183460469231731687303715884105728", "-170141183460469231731687303715884105728"},
	} {
		v, e := Parse(x[0], x[1])
		s, f := Text(v)
		if e != api.OK || f != api.OK || s != x[2] {
			t.Errorf("%s %s: %s, errors %d %d, want %s", x[0], x[1], s, e, f, x[2])
		}
	}
	for _, x := range []struct {
		typ, s string
		want   api.Errno
	}{
		{"Bool", "true", api.ErrNone}, {"", "1", api.ErrNone}, {"u8", "1", api.ErrNone}, {"U8", "256", api.ErrRange}, {"U8", "-1", api.ErrRange}, {"I8", "-129", api.ErrRange}, {"I8", "128", api.ErrRange}, {"U8", "", api.ErrForm}, {"U8", "-", api.ErrForm}, {"U8", "+1", api.ErrForm},
		{"U8", "--1", api.ErrForm}, {"U8", "1_0", api.ErrForm}, {"U8", "0x1", api.ErrForm}, {"U8", " 1", api.ErrForm}, {"U8", "1.0", api.ErrForm}, {"U8", "٣", api.ErrForm}, {"U128", "340282366920938463463374607431768211456", api.ErrRange}, {"U64", strings.Repeat("9", 400), api.ErrRange},
		{"U64", strings.Repeat("9", 401), api.ErrLarge}, {"U64", strings.Repeat("x", 401), api.ErrLarge}, {"F64", strings.Repeat("x", 401), api.ErrLarge}, {"F64", strings.Repeat("9", 400), api.OK}, {"F64", "", api.ErrForm}, {"F64", "-", api.ErrForm}, {"F64", ".5", api.ErrForm}, {"F64", "5.", api.ErrForm},
		{"F64", "1e", api.ErrForm}, {"F64", "1e+", api.ErrForm}, {"F64", "1e+-1", api.ErrForm}, {"F64", "1E5", api.ErrForm}, {"F64", "+1", api.ErrForm}, {"F64", "-nan", api.ErrForm}, {"F64", "Inf", api.ErrForm}, {"F64", "+inf", api.ErrForm}, {"F64", "infinity", api.ErrForm}, {"F64", "0x1p3", api.ErrForm},
		{"F64", "1_0.0", api.ErrForm}, {"F64", "1.5.2", api.ErrForm}, {"F64", "1e5e5", api.ErrForm}, {"F64", "1e1.5", api.ErrForm}, {"F32", " 1", api.ErrForm}, {"F64", "1e-5", api.OK}, {"F64", "--1", api.ErrForm}, {"F64", "1e99999999999999999999", api.OK},
	} {
		if v, e := Parse(x.typ, x.s); e != x.want || e != api.OK && !reflect.DeepEqual(v, api.Value{}) {
			t.Errorf("Parse(%s, %.20q): %v, error %d, want %d", x.typ, x.s, v, e, x.want)
		}
	}
}

func TestTypes(t *testing.T) {
	want := []string{"I8", "I16", "I32", "I64", "I128", "ISize", "U8", "U16", "U32", "U64", "U128", "USize", "F32", "F64"}
	if !slices.Equal(Types(), want) {
		t.Errorf("Types: %v", Types())
	}
	for i, n := range want {
		k, e := Kind(n)
		back, f := Name(k)
		if k != api.ValNumber+i || e != api.OK || back != n || f != api.OK {
			t.Errorf("Kind(%s): %d, error %d; Name: %s, error %d", n, k, e, back, f)
		}
	}
	for _, n := range []string{"", "Bool", "String", "u8", "U7"} {
		if k, e := Kind(n); k != 0 || e != api.ErrNone {
			t.Errorf("Kind(%s): %d, error %d", n, k, e)
		}
	}
	for _, k := range []int{-1, 0, 1, 9, 24, math.MinInt, math.MaxInt} {
		if n, e := Name(k); n != "" || e != api.ErrNone {
			t.Errorf("Name(%d): %s, error %d", k, n, e)
		}
	}
	for _, x := range []struct {
		typ  string
		n    uint64
		want string
	}{{"U8", 256, "0"}, {"I8", 255, "-1"}, {"I16", 1 << 15, "-32768"}, {"U64", math.MaxUint64, "18446744073709551615"}, {"I64", math.MaxUint64, "-1"}, {"I128", math.MaxUint64, "18446744073709551615"}, {"USize", 7, "7"}} {
		v, e := Of(x.typ, x.n)
		if s, _ := Text(v); e != api.OK || s != x.want {
			t.Errorf("Of(%s, %d): %s, error %d, want %s", x.typ, x.n, s, e, x.want)
		}
	}
	for _, n := range []string{"F32", "F64", "Bool", ""} {
		if v, e := Of(n, 1); e != api.ErrNone || !reflect.DeepEqual(v, api.Value{}) {
			t.Errorf("Of(%s): %v, error %d", n, v, e)
		}
	}
}

func TestCheck(t *testing.T) {
	n := func(typ int) int { return api.ValNumber + typ }
	for _, v := range []api.Value{{Kind: api.ValBool}, {Kind: api.ValBool, Lo: 1}, {Kind: n(u8), Lo: 255}, {Kind: n(u64), Lo: math.MaxUint64}, {Kind: n(i128), Lo: 1, Hi: math.MaxUint64}, {Kind: n(f32), Lo: 0x7fc00000}, {Kind: n(f64), Lo: 0x7ff8000000000000}, {Kind: n(f32), Lo: 0xff800000}, {Kind: n(u8), Kids: []api.Value{}}} {
		if e := Check(v); e != api.OK {
			t.Errorf("Check(%v): error %d", v, e)
		}
	}
	for _, v := range []api.Value{{}, {Kind: -1}, {Kind: api.ValUnit, Name: "None"}, {Kind: n(count)}, {Kind: 9}, {Kind: api.ValBool, Lo: 2}, {Kind: api.ValBool, Hi: 1}, {Kind: api.ValBool, Name: "x"}, {Kind: n(u8), Lo: 256}, {Kind: n(i8), Lo: math.MaxUint64}, {Kind: n(u8), Hi: 1}, {Kind: n(u64), Hi: 1}, {Kind: n(f32), Lo: 1 << 32},
		{Kind: n(f32), Lo: 0xffc00000}, {Kind: n(f32), Lo: 0x7fc00001}, {Kind: n(f32), Lo: 0x7f800001}, {Kind: n(f64), Lo: 0x7ff8000000000001}, {Kind: n(f64), Lo: 0xfff8000000000000}, {Kind: n(f64), Hi: 1}, {Kind: n(u8), Name: "U8"}, {Kind: n(u8), Kids: []api.Value{{}}}} {
		if e := Check(v); e != api.ErrForm {
			t.Errorf("Check(%v): error %d", v, e)
		}
		if s, e := Text(v); e != api.ErrForm || s != "" {
			t.Errorf("Text(%v): %q, error %d", v, s, e)
		}
	}
}

func TestMethods(t *testing.T) {
	names := func(typ string) string {
		l, e := Methods(typ)
		if e != api.OK {
			t.Fatalf("Methods(%s): error %d", typ, e)
		}
		var s []string
		for _, m := range l {
			s = append(s, m.Name)
		}
		return strings.Join(s, " ")
	}
	const both = "add sub mul div rem add_partial sub_partial mul_partial div_partial rem_partial neg eq ne lt le gt ge min max abs "
	const last = "i8 i16 i32 i64 i128 isize u8 u16 u32 u64 u128 usize f32 f64 string"
	for typ, want := range map[string]string{"U8": both + "op_and op_or op_xor op_not shl shr popcount clz ctz " + last, "F32": both + "sqrt floor ceil trunc round finite nan " + last, "Bool": "eq ne op_and op_or op_xor op_not string"} {
		if got := names(typ); got != want {
			t.Errorf("Methods(%s): %s", typ, got)
		}
	}
	if l, e := Methods("String"); l != nil || e != api.ErrNone {
		t.Errorf("Methods of String: %v, error %d", l, e)
	}
	for _, typ := range append(Types(), "Bool") {
		l, _ := Methods(typ)
		for _, m := range l {
			checkSignature(t, typ, m)
		}
	}
	l, _ := Methods("I8")
	for _, want := range []Signature{{"add", []string{"I8"}, "I8", false}, {"rem_partial", []string{"I8"}, "I8", true}, {"neg", nil, "I8", false}, {"lt", []string{"I8"}, "Bool", false}, {"clz", nil, "I8", false}, {"usize", nil, "USize", false}, {"string", nil, "String", false}} {
		i := slices.IndexFunc(l, func(s Signature) bool { return s.Name == want.Name })
		if !reflect.DeepEqual(l[i], want) {
			t.Errorf("%v, want %v", l[i], want)
		}
	}
}

// checkSignature checks that Call takes what Methods tells of, and nothing else.
func checkSignature(t *testing.T, typ string, m Signature) {
	t.Helper()
	sample := func(typ string) api.Value {
		if typ == "Bool" {
			return boolean(true)
		}
		return read(t, typ, "1")
	}
	args := []api.Value{sample(typ)}
	for _, p := range m.Params {
		args = append(args, sample(p))
	}
	v, raised, e := Call(typ, m.Name, args)
	if m.Name == "string" {
		if e != api.ErrNone {
			t.Errorf("%s string: error %d", typ, e)
		}
		return
	}
	kind, _ := Kind(m.Result)
	if m.Result == "Bool" {
		kind = api.ValBool
	}
	if e != api.OK || raised || v.Kind != kind || Check(v) != api.OK || m.Partial != strings.HasSuffix(m.Name, "_partial") {
		t.Errorf("%s %v: %v, %v, error %d", typ, m, v, raised, e)
	}
	for _, wrong := range [][]api.Value{nil, args[1:], append(slices.Clone(args), sample(typ)), {}} {
		if v, raised, e := Call(typ, m.Name, wrong); e != api.ErrSize && len(wrong) != len(args) || raised || e != api.OK && !reflect.DeepEqual(v, api.Value{}) {
			t.Errorf("%s %s of %d arguments: error %d", typ, m.Name, len(wrong), e)
		}
	}
	for i := range args {
		for _, other := range []api.Value{{}, {Kind: api.ValUnit, Name: "None"}, {Kind: args[i].Kind, Lo: args[i].Lo, Name: "x"}, {Kind: args[i].Kind, Hi: 1, Kids: []api.Value{{}}}} {
			wrong := slices.Clone(args)
			wrong[i] = other
			if _, _, e := Call(typ, m.Name, wrong); e != api.ErrType {
				t.Errorf("%s %s with a wrong argument %d: error %d", typ, m.Name, i, e)
			}
		}
	}
}

func TestCalls(t *testing.T) {
	for _, x := range [][2]string{{"", "add"}, {"String", "size"}, {"U8", ""}, {"U8", "sqrt"}, {"F64", "shl"}, {"F64", "op_and"}, {"Bool", "add"}, {"Bool", "i8"}, {"U8", "neg_partial"}, {"F32", "sqrt_partial"}, {"U8", "_partial"}, {"U8", "string"}, {"U8", "I8"}, {"U8", "finite"}} {
		if v, raised, e := Call(x[0], x[1], nil); e != api.ErrNone || raised || !reflect.DeepEqual(v, api.Value{}) {
			t.Errorf("Call(%s, %s): %v, error %d", x[0], x[1], v, e)
		}
	}
	for _, x := range [][5]string{{"U8", "add", "250", "10", "4"}, {"I8", "div", "-128", "-1", "-128"}, {"I8", "rem", "-128", "-1", "0"}, {"I8", "div", "7", "0", "0"}, {"I8", "rem", "7", "0", "0"}, {"I8", "rem", "-7", "3", "-1"}, {"I8", "div", "-7", "3", "-2"}, {"I8", "shl", "1", "-1", "0"}, {"I8", "shr", "-1", "-128", "-1"},
		{"I8", "shr", "-128", "7", "-1"}, {"U8", "shr", "128", "8", "0"}, {"I128", "shr", "-1", "128", "-1"}, {"U128", "shl", "1", "127", "170141183460469231731687303715884105728"}, {"F64", "min", "0.0", "-0.0", "0.0"}, {"F64", "max", "-0.0", "0.0", "-0.0"}, {"F64", "min", "nan", "1", "1.0"}, {"F64", "min", "1", "nan", "1.0"},
		{"F64", "rem", "-6", "3", "-0.0"}, {"F64", "rem", "5", "inf", "5.0"}, {"F64", "rem", "inf", "5", "nan"}, {"F64", "rem", "5", "0", "nan"}} {
		if s, _ := Text(result(t, x[0], x[1], read(t, x[0], x[2]), read(t, x[0], x[3]))); s != x[4] {
			t.Errorf("%s %s(%s, %s): %s, want %s", x[0], x[1], x[2], x[3], s, x[4])
		}
	}
	for _, x := range [][4]string{{"I8", "neg", "-128", "-128"}, {"I8", "abs", "-128", "-128"}, {"U8", "neg", "1", "255"}, {"U8", "clz", "0", "8"}, {"I128", "ctz", "0", "128"}, {"I8", "popcount", "-1", "8"}, {"F64", "neg", "nan", "nan"}, {"F64", "neg", "0", "-0.0"}, {"F64", "round", "2.5", "3.0"}, {"F64", "round", "-2.5", "-3.0"},
		{"F64", "sqrt", "-1", "nan"}, {"F64", "i8", "300.0", "127"}, {"F64", "i8", "-300", "-128"}, {"F64", "u8", "-1", "0"}, {"F64", "u128", "1e300", "340282366920938463463374607431768211455"}, {"F64", "i64", "nan", "0"}, {"F64", "i8", "-1.9", "-1"}, {"F64", "f32", "1e300", "inf"}, {"F64", "f32", "3.4028235677973366e38", "inf"},
		{"F64", "f32", "3.4028235677973362e38", "3.4028235e38"}, {"U128", "f32", "340282366920938463463374607431768211455", "inf"}, {"U64", "f32", "16777217", "16777216.0"}, {"U64", "f32", "16777219", "16777220.0"}, {"I128", "f64", "-9007199254740993", "-9.007199254740992e15"}} {
		if s, _ := Text(result(t, x[0], x[1], read(t, x[0], x[2]))); s != x[3] {
			t.Errorf("%s %s(%s): %s, want %s", x[0], x[1], x[2], s, x[3])
		}
	}
	for _, x := range []string{"eq", "ne", "op_and", "op_or", "op_xor"} {
		for i := range 4 {
			a, b := i&1 == 1, i&2 == 2
			want := map[string]bool{"eq": a == b, "ne": a != b, "op_and": a && b, "op_or": a || b, "op_xor": a != b}[x]
			if truth(t, "Bool", x, boolean(a), boolean(b)) != want {
				t.Errorf("Bool %s(%v, %v)", x, a, b)
			}
		}
	}
	if truth(t, "Bool", "op_not", boolean(true)) || !truth(t, "Bool", "op_not", boolean(false)) {
		t.Error("op_not")
	}
	if s, e := Text(boolean(true)); s != "true" || e != api.OK {
		t.Errorf("Text of true: %s, error %d", s, e)
	}
	for i := range uint64(1 << 16) { // all F32 of some parts of the range are exact as F64, and have texts
		v := single().value(math.Float32frombits(uint32(i * 65537)))
		if w := result(t, "F64", "f32", result(t, "F32", "f64", v)); !reflect.DeepEqual(w, v) {
			t.Fatalf("%v as F64 and back: %v", v, w)
		}
	}
}

// TestAnything checks P1 and P2 on arguments by chance.
func TestAnything(t *testing.T) {
	r := rand.New(rand.NewSource(3))
	words := append(Types(), "Bool", "String", "", "add", "rem_partial", "shl", "clz", "f32", "u8", "nan", "neg", "min", "eq", "x")
	anyValue := func() api.Value {
		v := api.Value{Kind: r.Intn(28) - 2, Lo: r.Uint64() >> r.Intn(64)}
		if r.Intn(4) == 0 {
			v.Hi = r.Uint64()
		}
		if r.Intn(8) == 0 {
			v.Name = "x"
		}
		return v
	}
	for range 20000 {
		typ, method := words[r.Intn(len(words))], words[r.Intn(len(words))]
		var args []api.Value
		for range r.Intn(4) {
			args = append(args, anyValue())
			if i, ok := find(typ); ok && r.Intn(2) == 0 {
				args[len(args)-1].Kind = api.ValNumber + i
			}
		}
		v, raised, e := Call(typ, method, args)
		w, raised2, e2 := Call(typ, method, args)
		if !reflect.DeepEqual(v, w) || raised != raised2 || e != e2 || e == api.OK && !raised && Check(v) != api.OK || e != api.OK && (raised || !reflect.DeepEqual(v, api.Value{})) {
			t.Fatalf("%s %s of %v: %v, %v, error %d", typ, method, args, v, raised, e)
		}
		v = anyValue()
		s, e := Text(v)
		if (e == api.OK) != (Check(v) == api.OK) || (e == api.OK) != (s != "") {
			t.Fatalf("Text(%v): %q, error %d", v, s, e)
		}
	}
}
