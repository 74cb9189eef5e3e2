package matching_test

import (
	"fmt"
	"math/bits"
	"reflect"
	"slices"
	"strings"
	"testing"

	"hackamore/api"
	"hackamore/internal/sample"
	. "hackamore/matching"
)

// of takes leaves.
func of(l ...int) Pattern { return Pattern{{Leaves: l}} }

// tup takes tuples.
func tup(kids ...Pattern) Pattern { return Pattern{{Kids: kids}} }

// or takes what one of patterns takes.
func or(l ...Pattern) Pattern { return slices.Concat(l...) }

func leaf(n int) Value           { return Value{Leaf: n} }
func tuple(kids ...Value) Value  { return Value{Kids: kids} }
func on(p Pattern) Case          { return Case{Pattern: p} }
func guarded(p Pattern) Case     { return Case{Pattern: p, Guard: true} }
func fail() Tree                 { return Tree{} }
func take(n int, l ...Tree) Tree { return Tree{Kind: Take, Case: n, Kids: l} }
func same(a, b any) bool         { return text(a) == text(b) }
func arity(n int) Sort           { return Sort{Arity: n} }
func leaves(l ...int) Sort       { return Sort{Leaves: l} }

// text writes what is equal alike, nil lists and empty ones, too.
func text(x any) string { return strings.ReplaceAll(fmt.Sprintf("%+v", x), "<nil>", "[]") }

// show writes a pattern as chapter 12 does.
func show(p Pattern) string {
	var parts []string
	for _, part := range p {
		var l []string
		for _, n := range part.Leaves {
			l = append(l, fmt.Sprint(n))
		}
		s := strings.Join(l, ",")
		if len(part.Kids) > 0 {
			l = nil
			for _, k := range part.Kids {
				l = append(l, show(k))
			}
			s = "(" + strings.Join(l, "; ") + ")"
		}
		parts = append(parts, s)
	}
	return strings.Join(parts, " | ")
}

// test returns a tree that looks at a path: sorts and trees by turns.
func test(path []int, l ...any) Tree {
	t := Tree{Kind: Test, Path: path}
	for i := 0; i < len(l); i += 2 {
		t.Sorts = append(t.Sorts, l[i].(Sort))
		t.Kids = append(t.Kids, l[i+1].(Tree))
	}
	return t
}

// wrongPatterns are patterns over three leaves with their errors.
func wrongPatterns() map[string]struct {
	p    Pattern
	want api.Errno
} {
	x := of(0)
	deep := tup(tup(tup(x, x), x), x)
	many := slices.Repeat(x, 200)
	type wrong = struct {
		p    Pattern
		want api.Errno
	}
	return map[string]wrong{
		"none": {nil, api.OK}, "leaves": {of(0, 1, 2), api.OK}, "many": {many, api.OK}, "deep": {deep, api.OK}, "empty Kids": {tup(nil, nil), api.OK}, "four": {tup(x, x, x, x), api.OK}, "many below": {tup(many[:99], many[:100]), api.OK},
		"too many": {slices.Repeat(x, 201), api.ErrSize}, "too many below": {tup(many[:100], many[:100]), api.ErrSize}, "too deep": {tup(deep, x), api.ErrSize}, "too deep, and none": {tup(tup(tup(tup(nil, x), x), x), of(9)), api.ErrSize},
		"no leaves": {Pattern{{}}, ErrPattern}, "both": {Pattern{{Leaves: []int{0}, Kids: []Pattern{x, x}}}, ErrPattern}, "one Kid": {tup(x), ErrPattern}, "five": {tup(x, x, x, x, x), ErrPattern}, "order": {of(1, 0), ErrPattern}, "twice": {of(1, 1), ErrPattern},
		"no leaf": {of(0, 3), ErrPattern}, "below": {of(-1, 0), ErrPattern}, "Kid": {tup(x, of(3)), ErrPattern}, "Kid of a Kid": {tup(x, tup(x, Pattern{{}})), ErrPattern}, "later": {or(x, tup(x, x), of(2, 1)), ErrPattern},
	}
}

func TestCheck(t *testing.T) {
	fine, value := of(0), leaf(0)
	for name, x := range wrongPatterns() {
		got := map[string]api.Errno{"Check": Check(3, x.p)}
		add := func(what string, result any, e api.Errno) {
			got[what] = e
			if v := reflect.ValueOf(result); e != api.OK && !v.IsZero() && !(v.Kind() == reflect.Slice && v.Len() == 0) {
				t.Errorf("%s of %s: %v with the error %d", what, name, result, e)
			}
		}
		p, e := Normal(3, x.p)
		add("Normal", p, e)
		b, e := Takes(3, x.p, value)
		add("Takes", b, e)
		for i, f := range []func(int, Pattern, Pattern) (Pattern, api.Errno){Both, Less} {
			p, e := f(3, x.p, fine)
			add(fmt.Sprint("first", i), p, e)
			p, e = f(3, fine, x.p)
			add(fmt.Sprint("second", i), p, e)
		}
		b, e = Within(3, x.p, fine)
		add("Within", b, e)
		b, e = Within(3, fine, x.p)
		add("Within second", b, e)
		l := []Case{on(fine), on(x.p)}
		n, e := Taken(3, l, value, []bool{true, true})
		add("Taken", n, e)
		for i, c := range []struct {
			operand Pattern
			l       []Case
		}{{x.p, l[:1]}, {fine, l}} {
			_, v, e := Exhaustive(3, c.operand, c.l)
			add(fmt.Sprint("Exhaustive", i), v, e)
			u, e := Unreachable(3, c.operand, c.l)
			add(fmt.Sprint("Unreachable", i), u, e)
			d, e := Decide(3, c.operand, c.l)
			add(fmt.Sprint("Decide", i), d, e)
		}
		for what, e := range got {
			if e != x.want {
				t.Errorf("%s of %s: error %d, want %d", what, name, e, x.want)
			}
		}
	}
}

func TestLeavesOfAll(t *testing.T) {
	bad := Pattern{{}}
	for _, n := range []int{-1, api.MaxUnits + 1, -1 << 40} {
		codes := []api.Errno{Check(n, bad), CheckTree(n, -1, Tree{Kind: 99})}
		_, e := Normal(n, bad)
		_, f := Takes(n, bad, Value{Leaf: -1})
		_, g := Both(n, bad, bad)
		_, h := Less(n, bad, bad)
		codes = append(codes, e, f, g, h)
		_, e = Within(n, bad, bad)
		_, f = Taken(n, make([]Case, 99), Value{Leaf: -1}, nil)
		_, _, g = Exhaustive(n, bad, make([]Case, 99))
		_, h = Unreachable(n, bad, make([]Case, 99))
		codes = append(codes, e, f, g, h)
		_, e = Decide(n, bad, make([]Case, 99))
		_, _, f = Run(n, Tree{Kind: 99}, Value{Leaf: -1}, nil)
		codes = append(codes, e, f)
		if slices.ContainsFunc(codes, func(e api.Errno) bool { return e != api.ErrArg }) {
			t.Errorf("%d leaves: errors %v", n, codes)
		}
	}
	for _, n := range []int{0, api.MaxUnits} {
		if e := Check(n, nil); e != api.OK {
			t.Errorf("%d leaves: error %d", n, e)
		}
	}
	if Check(0, of(0)) != ErrPattern || Check(api.MaxUnits, of(199)) != api.OK || Check(api.MaxUnits, of(200)) != ErrPattern {
		t.Error("leaves at the limit")
	}
}

func TestValues(t *testing.T) {
	v := leaf(0)
	deep := tuple(tuple(tuple(v, v), v), v)
	p := or(of(0, 2), tup(of(0, 1), or(of(1), tup(of(0), of(0)))))
	for i, x := range []struct {
		v    Value
		want bool
		code api.Errno
	}{
		{v, true, api.OK}, {leaf(1), false, api.OK}, {leaf(2), true, api.OK}, {tuple(leaf(1), leaf(1)), true, api.OK}, {tuple(leaf(2), leaf(1)), false, api.OK}, {tuple(v, tuple(v, v)), true, api.OK}, {tuple(v, tuple(v, leaf(1))), false, api.OK}, {tuple(v, leaf(1), v), false, api.OK}, {deep, false, api.OK},
		{leaf(3), false, ErrPattern}, {leaf(-1), false, ErrPattern}, {tuple(v), false, ErrPattern}, {tuple(v, v, v, v, v), false, ErrPattern}, {Value{1, []Value{v, v}}, false, ErrPattern}, {tuple(v, leaf(3)), false, ErrPattern}, {tuple(deep, v), false, ErrPattern}, {tuple(v, Value{2, []Value{v, v}}), false, ErrPattern},
	} {
		if got, e := Takes(3, p, x.v); got != x.want || e != x.code {
			t.Errorf("Takes %d: %v, error %d, want %v, error %d", i, got, e, x.want, x.code)
		}
		n, e := Taken(3, []Case{on(p)}, x.v, []bool{false})
		if want := map[bool]int{true: 0, false: -1}[x.want]; e != x.code || e == api.OK && n != want || e != api.OK && n != 0 {
			t.Errorf("Taken %d: %d, error %d", i, n, e)
		}
		if n, tests, e := Run(3, take(0), x.v, []bool{true}); e != x.code || n != 0 || tests != 0 {
			t.Errorf("Run %d: %d, %d, error %d", i, n, tests, e)
		}
	}
}

func TestNormal(t *testing.T) {
	x, y, z := of(0), of(1), of(2)
	a, b := or(tup(x, x, x), tup(y, y, x)), or(tup(x, x, x), tup(x, y, y)) // b is ahead: what its first leaf has goes on
	for i, c := range []struct {
		p    Pattern
		want string
	}{
		{or(tup(tup(a, x), x), tup(tup(b, y), y)), "(((0; 0; 0) | (0; 1; 1); 1); 1) | (((0; 0; 0) | (1; 1; 0); 0); 0)"}, {or(tup(tup(b, x), x), tup(tup(a, y), y)), "(((0; 0; 0) | (0; 1; 1); 0); 0) | (((0; 0; 0) | (1; 1; 0); 1); 1)"},
		{nil, ""}, {or(y, x, y), "0,1"}, {or(tup(x, of(0, 1)), tup(y, x)), "(0; 0,1) | (1; 0)"}, {or(tup(x, x), tup(x, y), tup(y, x)), "(0; 0,1) | (1; 0)"}, {or(tup(y, x), tup(x, x)), "(0,1; 0)"}, {tup(x, nil), ""}, {or(tup(x, x, x), of(2), tup(y, y)), "2 | (1; 1) | (0; 0; 0)"},
		{or(tup(x, x, x), tup(x, y, y)), "(0; 0; 0) | (0; 1; 1)"}, {or(tup(x, x, x), tup(x, y, y), tup(z, y, y), tup(z, x, x)), "(0,2; 0; 0) | (0,2; 1; 1)"}, {or(tup(of(0, 1), of(0, 1)), tup(of(1, 2), of(1, 2))), "(0; 0,1) | (1; 0,1,2) | (2; 1,2)"},
		{or(tup(of(0, 1), x), tup(tup(x, y), x), tup(tup(y, y), x)), "(0,1 | (0,1; 1); 0)"}, {or(tup(tup(x, y), x), tup(tup(x, of(0, 1)), y)), "((0; 0); 1) | ((0; 1); 0,1)"}, {or(tup(x, tup(x, y)), tup(x, tup(y, y)), tup(y, z)), "(0; (0,1; 1)) | (1; 2)"},
		{or(tup(of(0, 1), y), tup(x, z), tup(or(z, tup(x, x)), y)), "(0; 1,2) | (1,2 | (0; 0); 1)"}, {or(tup(or(y, tup(x, x)), x), tup(tup(x, x, x), y), tup(of(1, 2), z)), "(1; 0,2) | (2; 2) | ((0; 0); 0) | ((0; 0; 0); 1)"},
		{or(tup(of(1, 2), x), tup(y, y), tup(of(0, 2), z), tup(tup(x, x), z)), "(0 | (0; 0); 2) | (1; 0,1) | (2; 0,2)"}, {or(tup(of(0, 2), x), tup(of(0, 1), y)), "(0; 0,1) | (1; 1) | (2; 0)"}, {or(tup(of(0, 2), x), tup(x, y), tup(y, z)), "(0; 0,1) | (1; 2) | (2; 0)"}, {or(tup(of(0, 2), x), tup(y, z)), "(0,2; 0) | (1; 2)"},
	} {
		got, e := Normal(3, c.p)
		if e != api.OK || show(got) != c.want {
			t.Errorf("Normal %d, of %s: %s, error %d, want %s", i, show(c.p), show(got), e, c.want)
		}
	}
}

func TestSets(t *testing.T) {
	x, y := of(0), of(1)
	xy := of(0, 1)
	square := tup(xy, xy)
	for i, c := range []struct {
		p, q       Pattern
		both, less string
		within     bool
	}{
		{xy, y, "1", "0", true}, {x, y, "", "0", false}, {square, tup(x, y), "(0; 1)", "(0; 0) | (1; 0,1)", true}, {square, or(tup(x, xy), tup(xy, y)), "(0; 0,1) | (1; 1)", "(1; 0)", true}, {or(x, square), or(xy, tup(x, x, x)), "0", "(0,1; 0,1)", false}, {nil, x, "", "", false}, {x, nil, "", "0", true},
		{tup(square, xy), tup(tup(x, x), x), "((0; 0); 0)", "((0; 0); 1) | ((0; 1) | (1; 0,1); 0,1)", true}, {tup(xy, xy, xy), tup(x, y, x), "(0; 1; 0)", "(0; 0; 0,1) | (0; 1; 1) | (1; 0,1; 0,1)", true}, {tup(xy, nil), square, "", "", false},
	} {
		p, e := Both(2, c.p, c.q)
		q, f := Less(2, c.p, c.q)
		within, g := Within(2, c.p, c.q)
		if e != api.OK || f != api.OK || g != api.OK || show(p) != c.both || show(q) != c.less || within != c.within {
			t.Errorf("%d: Both %s, Less %s, Within %v; want %s, %s, %v", i, show(p), show(q), within, c.both, c.less, c.within)
		}
	}
}

// all are all leaves there may be.
func all() []int {
	var l []int
	for i := range api.MaxUnits {
		l = append(l, i)
	}
	return l
}

// subsets takes triples whose first leaves have different rests: the leaf k is first with (i; i) for each bit i of the k-th mask.
func subsets(masks []int) Pattern {
	var p Pattern
	for i := range 8 {
		var first []int
		for k, mask := range masks {
			if mask>>i&1 == 1 {
				first = append(first, k)
			}
		}
		if len(first) > 0 {
			p = append(p, tup(of(first...), of(i), of(i))...)
		}
	}
	return p
}

// TestLarge has normal forms at the limit: of n bits in all masks they have n parts with 3 Kids each.
func TestLarge(t *testing.T) {
	var masks []int
	left := 250
	for mask := 1; mask < 256; mask++ {
		if n := bits.OnesCount(uint(mask)); n <= left {
			masks, left = append(masks, mask), left-n
		}
	}
	p := subsets(masks)
	q := append(of(0), p...)
	if got, e := Normal(api.MaxUnits, p); left != 0 || e != api.OK || len(got) != 250 {
		t.Errorf("1000 parts: %d, error %d", len(got), e)
	}
	nothing := []func() (Pattern, api.Errno){
		func() (Pattern, api.Errno) { return Normal(api.MaxUnits, q) }, func() (Pattern, api.Errno) { return Both(api.MaxUnits, q, q) },
		func() (Pattern, api.Errno) { return Less(api.MaxUnits, q, of(7)) },
	}
	for i, f := range nothing {
		if got, e := f(); e != api.ErrLarge || len(got) > 0 {
			t.Errorf("1001 parts %d: %d, error %d", i, len(got), e)
		}
	}
	if got, e := Both(api.MaxUnits, p, q); e != api.OK || len(got) != 250 {
		t.Errorf("Both: %d parts, error %d", len(got), e)
	}
	if ok, e := Within(api.MaxUnits, q, q); !ok || e != api.OK {
		t.Errorf("Within: %v, error %d", ok, e)
	}
	whole := tup(of(all()...), of(all()...), of(all()...))
	if ok, v, e := Exhaustive(api.MaxUnits, whole, []Case{on(p)}); ok || e != api.OK || !same(v, tuple(leaf(0), leaf(0), leaf(1))) {
		t.Errorf("Exhaustive: %v, %v, error %d", ok, v, e)
	}
	if l, e := Unreachable(api.MaxUnits, whole, []Case{on(q), on(p), on(whole), on(q)}); e != api.OK || !slices.Equal(l, []int{1, 3}) {
		t.Errorf("Unreachable: %v, error %d", l, e)
	}
}

// maker makes patterns and values by chance.
type maker struct {
	pick   func(int) int
	leaves int
}

func (m maker) pattern(depth, parts int) Pattern {
	var p Pattern
	for range m.pick(parts + 1) {
		if depth == 1 || m.pick(2) == 0 {
			var l []int
			for n := range m.leaves {
				if m.pick(2) == 0 {
					l = append(l, n)
				}
			}
			if len(l) > 0 {
				p = append(p, Part{Leaves: l})
			}
			continue
		}
		var part Part
		for range 2 + m.pick(2) {
			part.Kids = append(part.Kids, m.pattern(depth-1, parts))
		}
		p = append(p, part)
	}
	return p
}

func (m maker) value(depth int) Value {
	if depth == 1 || m.pick(3) == 0 {
		return leaf(m.pick(m.leaves))
	}
	var v Value
	for range 2 + m.pick(2) {
		v.Kids = append(v.Kids, m.value(depth-1))
	}
	return v
}

// inside returns a value that a pattern takes, if one is found.
func (m maker) inside(p Pattern) (Value, bool) {
	if len(p) == 0 {
		return Value{}, false
	}
	part := p[m.pick(len(p))]
	if len(part.Kids) == 0 {
		return leaf(part.Leaves[m.pick(len(part.Leaves))]), true
	}
	var v Value
	for _, k := range part.Kids {
		x, ok := m.inside(k)
		if !ok {
			return Value{}, false
		}
		v.Kids = append(v.Kids, x)
	}
	return v, true
}

// some returns values, most of which a pattern takes.
func (m maker) some(l ...Pattern) []Value {
	var out []Value
	for _, p := range l {
		for range 6 {
			if v, ok := m.inside(p); ok {
				out = append(out, v)
			}
		}
	}
	for range 6 {
		out = append(out, m.value(3))
	}
	return out
}

func takes(t *testing.T, leaves int, p Pattern, v Value) bool {
	t.Helper()
	ok, e := Takes(leaves, p, v)
	if e != api.OK && e != api.ErrSize {
		t.Fatalf("Takes: error %d", e)
	}
	return ok
}

// TestByChance: promise 12.2.
func TestByChance(t *testing.T) {
	for seed := range uint64(6000) {
		m := maker{sample.Source(seed), 2 + int(seed%3)}
		p, q := m.pattern(3, 3), m.pattern(3, 3)
		n, e := Normal(m.leaves, p)
		both, f := Both(m.leaves, p, q)
		less, g := Less(m.leaves, p, q)
		if e != api.OK || f != api.OK || g != api.OK {
			if e != api.ErrLarge && f != api.ErrLarge && g != api.ErrLarge && e != api.ErrSize && f != api.ErrSize {
				t.Fatalf("seed %d: errors %d, %d, %d", seed, e, f, g)
			}
			continue
		}
		for _, v := range m.some(p, q, n, both, less) {
			inP, inQ := takes(t, m.leaves, p, v), takes(t, m.leaves, q, v)
			if small(n) && takes(t, m.leaves, n, v) != inP || small(both) && takes(t, m.leaves, both, v) != (inP && inQ) || small(less) && takes(t, m.leaves, less, v) != (inP && !inQ) {
				t.Fatalf("seed %d: %v of %s and %s: Normal %s, Both %s, Less %s", seed, v, show(p), show(q), show(n), show(both), show(less))
			}
		}
		isNormal(t, m.leaves, n)
		isNormal(t, m.leaves, less)
		changed := slices.Clone(p)
		slices.Reverse(changed)
		if again, e := Normal(m.leaves, n); small(n) && (e != api.OK || !same(again, n)) {
			t.Fatalf("seed %d: Normal of %s: %s", seed, show(n), show(again))
		}
		if again, e := Normal(m.leaves, split(m, append(changed, p...))); e == api.OK && !same(again, n) {
			t.Fatalf("seed %d: Normal of the same values: %s, %s", seed, show(n), show(again))
		}
		if nothing, e := Less(m.leaves, p, p); e != api.OK || len(nothing) > 0 {
			t.Fatalf("seed %d: %s without itself: %s, error %d", seed, show(p), show(nothing), e)
		}
		order(t, m, p, q, both, less)
	}
}

// TestOrders has groups in whose order the Kids of first Kids count, also where one is the beginning of the other one.
func TestOrders(t *testing.T) {
	for seed := range uint64(20000) {
		m := maker{sample.Source(seed), 2}
		a := m.pattern(2, 3)
		b := m.pattern(2, 3)
		switch m.pick(3) {
		case 0:
			b = or(a, b)
		case 1:
			if n, e := Normal(2, a); e == api.OK && len(n) > 0 {
				b = n[:m.pick(len(n)+1)]
			}
		}
		p := or(tup(tup(a, of(0)), of(0)), tup(tup(b, of(1)), of(1)))
		switch m.pick(3) {
		case 1:
			p = or(tup(tup(of(0, 1), a, of(0)), of(0)), tup(tup(of(0, 1), b, of(1)), of(1)), tup(tup(of(0), a), of(0)))
		case 2:
			p = or(tup(tup(of(0), or(a, tup(a[:0], b))), of(0)), tup(tup(of(1), b), of(1)), tup(tup(a, b, of(1)), of(1)))
		}
		n, e := Normal(2, p)
		if e == api.ErrSize {
			continue
		}
		if e != api.OK {
			t.Fatalf("seed %d: Normal of %s: error %d", seed, show(p), e)
		}
		isNormal(t, 2, n)
		for range 10 {
			if v, ok := m.inside(p); ok && small(n) && !takes(t, 2, n, v) {
				t.Fatalf("seed %d: Normal of %s: %s", seed, show(p), show(n))
			}
		}
	}
}

// small reports whether a pattern may be handed in.
func small(p Pattern) bool { return Check(api.MaxUnits, p) == api.OK }

// split divides leaves and tuples of a pattern, so that it takes the same values.
func split(m maker, p Pattern) Pattern {
	var out Pattern
	for _, part := range p {
		if len(part.Leaves) > 1 {
			k := 1 + m.pick(len(part.Leaves)-1)
			out = append(out, Part{Leaves: part.Leaves[k:]}, Part{Leaves: part.Leaves[:k]})
			continue
		}
		if len(part.Kids) == 0 {
			out = append(out, part)
			continue
		}
		i := m.pick(len(part.Kids))
		kid := split(m, part.Kids[i])
		for _, one := range kid {
			kids := slices.Clone(part.Kids)
			kids[i] = Pattern{one}
			out = append(out, Part{Kids: kids})
		}
	}
	return out
}

// order checks that Within is one.
func order(t *testing.T, m maker, p, q, both, less Pattern) {
	t.Helper()
	within := func(p, q Pattern) bool {
		ok, e := Within(m.leaves, p, q)
		return ok || e != api.OK
	}
	if !within(p, p) || !within(p, both) || !within(q, both) || !within(p, less) {
		t.Fatalf("%s and %s: parts are not within", show(p), show(q))
	}
	if ok, e := Within(m.leaves, p, q); e == api.OK && small(less) {
		rest, _ := Less(m.leaves, q, p)
		if ok != (len(rest) == 0) {
			t.Fatalf("%s within %s: %v", show(q), show(p), ok)
		}
	}
	r := m.pattern(2, 3)
	if in := func(p, q Pattern) bool { ok, e := Within(m.leaves, p, q); return ok && e == api.OK }; in(p, q) && in(q, r) && !in(p, r) {
		t.Fatalf("%s, %s, %s", show(p), show(q), show(r))
	}
}

// compare is the order of patterns.
func compare(a, b Pattern) int {
	for i := range min(len(a), len(b)) {
		x, y := a[i], b[i]
		c := 0
		switch {
		case len(x.Kids) != len(y.Kids):
			c = len(x.Kids) - len(y.Kids)
		case len(x.Kids) == 0:
			c = slices.Compare(x.Leaves, y.Leaves)
		default:
			for k := range x.Kids {
				if c = compare(x.Kids[k], y.Kids[k]); c != 0 {
					break
				}
			}
		}
		if c != 0 {
			return c
		}
	}
	return len(a) - len(b)
}

// isNormal checks that a pattern is as the chapter says of normal forms.
func isNormal(t *testing.T, leaves int, p Pattern) {
	t.Helper()
	for i, part := range p {
		if i > 0 && (compare(p[i-1:i], p[i:i+1]) >= 0 || len(part.Leaves) > 0) {
			t.Fatalf("the parts of %s are not in order", show(p))
		}
		for _, k := range part.Kids {
			if len(k) == 0 {
				t.Fatalf("%s has a Kid without parts", show(p))
			}
			isNormal(t, leaves, k)
		}
	}
	for size := 2; size <= 4; size++ {
		var firsts, rests []Pattern
		for _, part := range p {
			if len(part.Kids) != size {
				continue
			}
			if n := len(firsts); n == 0 || !same(firsts[n-1], part.Kids[0]) {
				firsts, rests = append(firsts, part.Kids[0]), append(rests, nil)
			} else if size == 2 {
				t.Fatalf("%s has two parts of one group", show(p))
			}
			rest := &rests[len(rests)-1]
			if size == 2 {
				*rest = part.Kids[1]
			} else {
				*rest = append(*rest, Part{Kids: part.Kids[1:]})
			}
		}
		for i := range firsts {
			isNormal(t, leaves, rests[i])
			for k := range i {
				if both, e := Both(leaves, firsts[i], firsts[k]); same(rests[i], rests[k]) || e == api.OK && len(both) > 0 {
					t.Fatalf("the groups %d and %d of %s", k, i, show(p))
				}
			}
		}
	}
}
