package matching_test

import (
	"reflect"
	"slices"
	"testing"

	"hackamore/api"
	"hackamore/internal/sample"
	. "hackamore/matching"
)

func TestTaken(t *testing.T) {
	l := []Case{on(of(0)), guarded(of(1, 2)), on(of(2)), guarded(tup(of(0, 1), of(1))), on(tup(of(0), of(0, 1)))}
	pair := tuple(leaf(0), leaf(1))
	for i, x := range []struct {
		v     Value
		holds []bool
		want  int
	}{
		{leaf(0), []bool{false, false, false, false, false}, 0}, {leaf(1), []bool{true, true, true, true, true}, 1}, {leaf(1), make([]bool, 5), -1}, {leaf(2), make([]bool, 5), 2}, {leaf(2), []bool{false, true, false, false, false}, 1}, {pair, make([]bool, 5), 4}, {pair, []bool{false, false, false, true, false}, 3}, {tuple(leaf(1), leaf(1)), make([]bool, 5), -1},
	} {
		if n, e := Taken(3, l, x.v, x.holds); n != x.want || e != api.OK {
			t.Errorf("Taken %d: %d, error %d, want %d", i, n, e, x.want)
		}
	}
	many, wrong := make([]Case, 65), []Case{on(Pattern{{}}), on(slices.Repeat(of(0), 201))}
	for i, x := range []struct {
		l     []Case
		v     Value
		holds []bool
		want  api.Errno
	}{
		{many, leaf(9), nil, api.ErrSize}, {append(many, wrong...), leaf(9), nil, api.ErrSize}, {wrong, leaf(9), nil, ErrPattern}, {[]Case{wrong[1], wrong[0]}, leaf(9), nil, api.ErrSize}, {l, leaf(9), nil, ErrPattern}, {l, leaf(0), nil, api.ErrSize}, {l, leaf(0), make([]bool, 6), api.ErrSize}, {nil, leaf(0), nil, api.OK}, {many[:64], leaf(0), make([]bool, 64), api.OK},
	} {
		if n, e := Taken(3, x.l, x.v, x.holds); e != x.want || e != api.OK && n != 0 || e == api.OK && n != -1 {
			t.Errorf("Taken %d: %d, error %d, want %d", i, n, e, x.want)
		}
	}
}

func TestExhaustive(t *testing.T) {
	all := of(0, 1, 2)
	square := tup(of(0, 1), of(0, 1))
	for i, x := range []struct {
		operand Pattern
		l       []Case
		ok      bool
		v       Value
		never   []int
	}{
		{all, []Case{on(of(0)), guarded(of(1, 2)), on(of(2))}, false, leaf(1), nil}, {all, []Case{on(of(0)), guarded(of(1, 2)), on(of(2)), on(of(1))}, true, Value{}, nil}, {square, []Case{on(tup(of(0), of(0, 1))), on(tup(of(0, 1), of(1)))}, false, tuple(leaf(1), leaf(0)), nil},
		{nil, nil, true, Value{}, nil}, {all, nil, false, leaf(0), nil}, {nil, []Case{on(all), guarded(all)}, true, Value{}, []int{0, 1}}, {all, []Case{on(all), on(of(0)), guarded(of(1))}, true, Value{}, []int{1, 2}}, {all, []Case{guarded(all), guarded(all), on(nil), on(square)}, false, leaf(0), []int{2, 3}},
		{or(square, of(2)), []Case{on(of(2))}, false, tuple(leaf(0), leaf(0)), nil}, {or(tup(all, all, all), square), []Case{on(tup(of(0), of(0, 1)))}, false, tuple(leaf(1), leaf(0)), nil}, {or(tup(all, all, all), square), []Case{on(square), on(tup(all, of(0), all))}, false, tuple(leaf(0), leaf(1), leaf(0)), nil},
		{tup(square, all), []Case{on(tup(tup(of(0), of(0)), of(0, 2)))}, false, tuple(tuple(leaf(0), leaf(0)), leaf(1)), nil}, {tup(or(square, of(2)), all), []Case{on(tup(of(0, 1), all)), on(tup(of(2), of(1)))}, false, tuple(leaf(2), leaf(0)), []int{0}},
	} {
		ok, v, e := Exhaustive(3, x.operand, x.l)
		if ok != x.ok || !same(v, x.v) || e != api.OK {
			t.Errorf("Exhaustive %d: %v, %v, error %d, want %v, %v", i, ok, v, e, x.ok, x.v)
		}
		if l, e := Unreachable(3, x.operand, x.l); !slices.Equal(l, x.never) || e != api.OK {
			t.Errorf("Unreachable %d: %v, error %d, want %v", i, l, e, x.never)
		}
	}
	many, wrong := make([]Case, 65), Pattern{{}}
	for i, x := range []struct {
		operand Pattern
		l       []Case
		want    api.Errno
	}{{wrong, many, ErrPattern}, {nil, many, api.ErrSize}, {nil, append(slices.Clone(many), on(wrong)), api.ErrSize}, {nil, many[:64], api.OK}, {nil, []Case{on(wrong), on(slices.Repeat(of(0), 201))}, ErrPattern}} {
		ok, v, e := Exhaustive(3, x.operand, x.l)
		l, f := Unreachable(3, x.operand, x.l)
		d, g := Decide(3, x.operand, x.l)
		if e != x.want || f != x.want || g != x.want || ok != (e == api.OK) || e != api.OK && len(l) > 0 || !same(v, Value{}) || !same(d, fail()) {
			t.Errorf("match %d: %v, %v, %v, errors %d, %d, %d, want %d", i, ok, l, d, e, f, g, x.want)
		}
	}
}

func TestCheckTree(t *testing.T) {
	chain := func(n int) Tree {
		x := fail()
		for range n - 1 {
			x = take(0, x)
		}
		return x
	}
	root, first := []int(nil), []int{0}
	two := test(first, leaves(0), take(0), arity(2), test([]int{0, 1}, leaves(2), take(1)))
	for i, x := range []struct {
		leaves, cases int
		t             Tree
		want          api.Errno
	}{
		{3, 2, fail(), api.OK}, {3, 2, take(1), api.OK}, {3, 2, take(0, take(1, fail())), api.OK}, {3, 2, test(root, leaves(0, 2), take(0), arity(2), fail(), leaves(1), take(1), arity(4), two), api.OK}, {3, 2, test(root, arity(2), two), api.OK}, {3, 2, test([]int{}, arity(2), two), api.OK},
		{-1, 99, Tree{Kind: 9}, api.ErrArg}, {201, 2, fail(), api.ErrArg}, {3, -1, Tree{Kind: 9}, api.ErrSize}, {3, 65, fail(), api.ErrSize}, {3, 64, take(63), api.OK}, {0, 0, fail(), api.OK},
		{3, 2, Tree{Kind: -1}, ErrTree}, {3, 2, Tree{Kind: 3}, ErrTree}, {3, 2, Tree{Case: 1}, ErrTree}, {3, 2, Tree{Path: first}, ErrTree}, {3, 2, Tree{Sorts: []Sort{arity(2)}}, ErrTree}, {3, 2, Tree{Kids: []Tree{fail()}}, ErrTree},
		{3, 2, take(2), ErrTree}, {3, 2, take(-1), ErrTree}, {3, 0, take(0), ErrTree}, {3, 2, take(0, fail(), fail()), ErrTree}, {3, 2, take(0, take(2)), ErrTree}, {3, 2, Tree{Kind: Take, Path: first}, ErrTree}, {3, 2, Tree{Kind: Take, Sorts: []Sort{arity(2)}}, ErrTree},
		{3, 2, Tree{Kind: Test}, ErrTree}, {3, 2, Tree{Kind: Test, Case: 1, Sorts: []Sort{arity(2)}, Kids: []Tree{fail()}}, ErrTree}, {3, 2, Tree{Kind: Test, Sorts: []Sort{arity(2), arity(3)}, Kids: []Tree{fail()}}, ErrTree}, {3, 2, Tree{Kind: Test, Sorts: []Sort{arity(2)}, Kids: []Tree{fail(), fail()}}, ErrTree},
		{3, 2, test(root, Sort{}, fail()), ErrTree}, {3, 2, test(root, arity(1), fail()), ErrTree}, {3, 2, test(root, arity(5), fail()), ErrTree}, {3, 2, test(root, Sort{[]int{0}, 2}, fail()), ErrTree}, {3, 2, test(root, Sort{[]int{0}, -1}, fail()), ErrTree}, {3, 2, test(root, leaves(3), fail()), ErrTree}, {3, 2, test(root, leaves(1, 0), fail()), ErrTree},
		{3, 2, test(root, leaves(0, 1), fail(), leaves(1, 2), fail()), ErrTree}, {3, 2, test(root, arity(2), fail(), leaves(1), fail(), arity(2), fail()), ErrTree}, {3, 2, test(root, leaves(1), Tree{Kind: 9}), ErrTree},
		{3, 2, two, ErrTree}, {3, 2, test(root, leaves(0), two), ErrTree}, {3, 2, test(root, arity(2), test([]int{2}, leaves(0), fail())), ErrTree}, {3, 2, test(root, arity(3), test([]int{2}, leaves(0), fail())), api.OK}, {3, 2, test(root, arity(2), test([]int{-1}, leaves(0), fail())), ErrTree}, {3, 2, test(root, arity(2), test(root, leaves(0), fail())), ErrTree},
		{3, 2, test(root, arity(2), test([]int{1}, leaves(0), two)), api.OK}, {3, 2, test(root, arity(2), test([]int{1}, leaves(0), test([]int{1}, leaves(0), fail()))), ErrTree}, {3, 2, test(root, arity(2), test([]int{1}, arity(2), test([]int{1, 0}, arity(2), test([]int{1, 0, 1}, leaves(0), fail())))), api.OK},
		{3, 2, test(root, arity(2), test([]int{1}, arity(2), test([]int{1, 0}, arity(2), test([]int{1, 0, 1}, arity(2), test([]int{1, 0, 1, 0}, leaves(0), fail()))))), ErrTree}, {3, 2, test(root, arity(2), test([]int{1, 0}, leaves(0), fail())), ErrTree}, {3, 2, test(root, arity(2), test([]int{0}, arity(2), test([]int{1, 0}, leaves(0), fail()))), ErrTree},
		{3, 2, chain(5000), api.OK}, {3, 2, chain(5001), ErrTree},
	} {
		if e := CheckTree(x.leaves, x.cases, x.t); e != x.want {
			t.Errorf("tree %d: error %d, want %d", i, e, x.want)
		}
		if x.leaves == 3 && x.cases >= 0 {
			if n, tests, e := Run(3, x.t, leaf(0), make([]bool, x.cases)); e != x.want || e != api.OK && (n != 0 || tests != 0) {
				t.Errorf("Run of the tree %d: %d, %d, error %d, want %d", i, n, tests, e, x.want)
			}
		}
	}
}

func TestRun(t *testing.T) {
	x := test(nil, leaves(0), take(0, take(1, fail())), arity(2), test([]int{1}, leaves(1), take(2), arity(3), test([]int{1, 2}, leaves(2), take(3, take(1)))), arity(3), fail())
	for i, c := range []struct {
		v            Value
		holds        []bool
		taken, tests int
	}{
		{leaf(0), []bool{true, false, false, false}, 0, 1}, {leaf(0), []bool{false, true, false, false}, 1, 1}, {leaf(0), make([]bool, 4), -1, 1}, {leaf(1), make([]bool, 4), -1, 1}, {tuple(leaf(0), leaf(1)), make([]bool, 4), 2, 2}, {tuple(leaf(0), leaf(0)), make([]bool, 4), -1, 2}, {tuple(leaf(0), leaf(0), leaf(0)), make([]bool, 4), -1, 1},
		{tuple(leaf(0), tuple(leaf(0), leaf(0), leaf(2))), []bool{true, true, true, true}, 3, 3}, {tuple(leaf(0), tuple(leaf(0), leaf(0), leaf(2))), make([]bool, 4), 1, 3}, {tuple(leaf(0), tuple(leaf(0), leaf(0), leaf(1))), make([]bool, 4), -1, 3}, {tuple(leaf(0), tuple(leaf(0), leaf(0))), make([]bool, 4), -1, 2},
	} {
		if n, tests, e := Run(3, x, c.v, c.holds); n != c.taken || tests != c.tests || e != api.OK {
			t.Errorf("Run %d: %d, %d, error %d, want %d, %d", i, n, tests, e, c.taken, c.tests)
		}
	}
	for i, c := range []struct {
		leaves int
		t      Tree
		v      Value
		holds  int
		want   api.Errno
	}{{-1, Tree{Kind: 9}, leaf(-1), 65, api.ErrArg}, {3, Tree{Kind: 9}, leaf(3), 65, ErrPattern}, {3, Tree{Kind: 9}, leaf(0), 65, api.ErrSize}, {3, Tree{Kind: 9}, leaf(0), 64, ErrTree}, {3, x, leaf(0), 3, ErrTree}, {3, x, leaf(0), 64, api.OK}} {
		if n, tests, e := Run(c.leaves, c.t, c.v, make([]bool, c.holds)); e != c.want || e != api.OK && (n != 0 || tests != 0) {
			t.Errorf("Run %d: %d, %d, error %d, want %d", i, n, tests, e, c.want)
		}
	}
}

// paths counts the paths of parts in patterns, each once.
func paths(l ...Pattern) int {
	known := map[string]bool{}
	var walk func(p Pattern, at string)
	walk = func(p Pattern, at string) {
		known[at] = true
		for _, part := range p {
			for i, k := range part.Kids {
				walk(k, at+string(rune('0'+i)))
			}
		}
	}
	for _, p := range l {
		walk(p, "")
	}
	return len(known)
}

// parts counts the parts of patterns.
func parts(l ...Pattern) int {
	n := 0
	for _, p := range l {
		n += len(p)
		for _, part := range p {
			n += parts(part.Kids...)
		}
	}
	return n
}

// most returns how many tests a tree makes on one way at most.
func most(x Tree) int {
	n := 0
	for _, k := range x.Kids {
		n = max(n, most(k))
	}
	if x.Kind == Test {
		n++
	}
	return n
}

func trees(x Tree) int {
	n := 1
	for _, k := range x.Kids {
		n += trees(k)
	}
	return n
}

// TestMatches: promises 12.3 and 12.4, for matches by chance.
func TestMatches(t *testing.T) {
	exhaustive, large := 0, 0
	for seed := range uint64(6000) {
		m := maker{sample.Source(seed), 2 + int(seed%3)}
		operand := m.pattern(3, 3)
		var l []Case
		all := []Pattern{operand}
		for range m.pick(6) {
			l = append(l, Case{m.pattern(3, 2), m.pick(3) == 0})
			all = append(all, l[len(l)-1].Pattern)
		}
		ok, v, e := Exhaustive(m.leaves, operand, l)
		never, f := Unreachable(m.leaves, operand, l)
		tree, g := Decide(m.leaves, operand, l)
		if e != api.OK || f != api.OK || g != api.OK {
			if e == api.ErrSize && f == e && g == e || e == api.OK && f == e && g == api.ErrFull && parts(all...) > 20 {
				large++
				continue
			}
			t.Fatalf("seed %d: errors %d, %d, %d", seed, e, f, g)
		}
		if ok {
			exhaustive++
		}
		if !ok && (!takes(t, m.leaves, operand, v) || caught(t, m.leaves, l, v)) {
			t.Fatalf("seed %d: %v of %s", seed, v, show(operand))
		}
		if code := CheckTree(m.leaves, len(l), tree); code != api.OK || most(tree) > paths(all...) {
			t.Fatalf("seed %d: a tree with %d tests of %d paths, error %d", seed, most(tree), paths(all...), code)
		}
		for _, v := range m.some(all...) {
			decides(t, m, operand, l, ok, never, tree, v)
		}
		more := append(slices.Clone(l), on(operand), on(m.pattern(2, 2)), guarded(operand))
		again, _, _ := Exhaustive(m.leaves, operand, more)
		behind, _ := Unreachable(m.leaves, operand, more)
		if !again || !slices.Contains(behind, len(l)+1) || !slices.Contains(behind, len(l)+2) || slices.Contains(behind, len(l)) != ok {
			t.Fatalf("seed %d: with a case more %v, %v", seed, again, behind)
		}
		exact(t, m.leaves, operand, l, ok, v)
	}
	if exhaustive < 300 || large > 600 {
		t.Errorf("%d matches are exhaustive, %d too large", exhaustive, large)
	}
}

// TestEveryValue: promise 12.4, for all values of operands whose leaves have different rests behind them, and all guards.
func TestEveryValue(t *testing.T) {
	four, zero := tup(of(1, 4), of(3)), tup(of(0), of(0))
	follows(t, 5, or(four, zero), []Case{on(tup(of(0, 4), of(0)))})
	follows(t, 5, or(zero, four), []Case{on(tup(of(0, 4), of(0))), on(tup(of(0, 1, 4), of(3)))})
	follows(t, 5, or(four, zero), []Case{guarded(tup(of(0, 4), of(0))), guarded(tup(of(0, 1, 4), of(0, 3)))})
	follows(t, 5, or(tup(of(0), of(1, 4), of(3)), tup(of(0), of(0), of(0))), []Case{on(tup(of(0), of(0, 4), of(0)))})
	follows(t, 5, or(tup(of(2), four), tup(of(3), zero)), []Case{on(tup(of(2, 3), tup(of(0, 4), of(0))))})
	follows(t, 5, or(tup(or(of(1), tup(of(4), of(4))), of(3)), tup(or(of(0), tup(of(0), of(0))), of(0))), []Case{on(tup(or(of(0, 1), tup(of(0, 4), of(0, 4))), of(0)))})
	compared := 0
	for seed := range uint64(4000) {
		m := maker{sample.Source(seed), 2 + int(seed%5)}
		operand := m.pattern(3, 3)
		if seed/5%2 == 0 { // tuples of leaves alone
			operand = nil
			for range 2 + m.pick(3) {
				operand = append(operand, Part{Kids: []Pattern{m.pattern(1, 2), m.pattern(1, 2)}})
			}
		}
		var l []Case
		for range 1 + m.pick(3) {
			l = append(l, Case{m.near(operand), m.pick(4) == 0})
		}
		compared += follows(t, m.leaves, operand, l)
	}
	if compared < 40000 {
		t.Errorf("%d values are compared", compared)
	}
}

// near makes a pattern whose parts have the form of those of another one, with other leaves.
func (m maker) near(p Pattern) Pattern {
	var out Pattern
	for _, part := range p {
		if len(part.Kids) == 0 {
			out = append(out, m.pattern(1, 1)...)
			continue
		}
		if m.pick(3) == 0 {
			continue
		}
		var kids []Pattern
		for _, k := range part.Kids {
			kids = append(kids, m.near(k))
		}
		out = append(out, Part{Kids: kids})
	}
	return out
}

// every returns the values that a pattern takes, some twice, and whether they are all: of many it returns some.
func every(p Pattern) (out []Value, whole bool) {
	whole = true
	for _, part := range p {
		for _, n := range part.Leaves {
			out = append(out, leaf(n))
		}
		if len(part.Kids) == 0 {
			continue
		}
		rows := [][]Value{nil}
		for _, k := range part.Kids {
			var next [][]Value
			values, all := every(k)
			for _, v := range values {
				for _, row := range rows {
					next = append(next, append(slices.Clip(row), v))
				}
			}
			rows = next[:min(len(next), 200)]
			whole = whole && all && len(rows) == len(next)
		}
		for _, row := range rows {
			out = append(out, tuple(row...))
		}
	}
	return out, whole
}

// follows compares the tree of a match with Taken, for all values of the operand and all guards, and returns how many values there are.
func follows(t *testing.T, leaves int, operand Pattern, l []Case) int {
	t.Helper()
	tree, e := Decide(leaves, operand, l)
	if e == api.ErrSize {
		return 0
	}
	if code := CheckTree(leaves, len(l), tree); e != api.OK || code != api.OK {
		t.Fatalf("Decide of %s and %s: error %d; CheckTree: error %d", show(operand), text(l), e, code)
	}
	values, whole := every(operand)
	for _, v := range values {
		for guards := range 1 << len(l) {
			holds := make([]bool, len(l))
			for i := range holds {
				holds[i] = guards>>i&1 == 1
			}
			want, _ := Taken(leaves, l, v, holds)
			if got, _, e := Run(leaves, tree, v, holds); got != want || e != api.OK {
				t.Fatalf("%v of %s, with %v of %s: the tree takes %d, error %d, want %d", v, show(operand), holds, text(l), got, e, want)
			}
		}
	}
	if whole {
		reaches(t, leaves, operand, l, values)
	}
	return len(values)
}

// reaches compares Exhaustive and Unreachable with what the cases of a match take of all values of its operand.
func reaches(t *testing.T, leaves int, operand Pattern, l []Case, values []Value) {
	t.Helper()
	var want []int
	left := values
	for i, c := range l {
		takes := func(v Value) bool { return takes(t, leaves, c.Pattern, v) }
		if !slices.ContainsFunc(left, takes) {
			want = append(want, i)
		}
		if !c.Guard {
			left = slices.DeleteFunc(slices.Clone(left), takes)
		}
	}
	ok, v, _ := Exhaustive(leaves, operand, l)
	never, _ := Unreachable(leaves, operand, l)
	if ok != (len(left) == 0) || !ok && !slices.ContainsFunc(left, func(x Value) bool { return same(x, v) }) || !slices.Equal(never, want) {
		t.Fatalf("%s with %s: exhaustive %v, %v, unreachable %v, want %v, %v", show(operand), text(l), ok, v, never, left, want)
	}
}

// caught reports whether a case without a guard takes a value.
func caught(t *testing.T, leaves int, l []Case, v Value) bool {
	return slices.ContainsFunc(l, func(c Case) bool { return !c.Guard && takes(t, leaves, c.Pattern, v) })
}

// decides compares a tree with the cases, for a value and all guards.
func decides(t *testing.T, m maker, operand Pattern, l []Case, ok bool, never []int, tree Tree, v Value) {
	t.Helper()
	if !takes(t, m.leaves, operand, v) {
		return
	}
	for range 3 {
		holds := make([]bool, len(l))
		for i := range holds {
			holds[i] = m.pick(2) == 0
		}
		want, _ := Taken(m.leaves, l, v, holds)
		got, _, e := Run(m.leaves, tree, v, holds)
		if got != want || e != api.OK || ok && want < 0 || slices.Contains(never, want) {
			t.Fatalf("%v of %s: the tree takes %d, error %d, want %d; exhaustive %v, unreachable %v", v, show(operand), got, e, want, ok, never)
		}
	}
}

// exact compares Exhaustive with the normal form of what is left, if there is one.
func exact(t *testing.T, leaves int, operand Pattern, l []Case, ok bool, v Value) {
	t.Helper()
	left := operand
	for _, c := range l {
		if c.Guard {
			continue
		}
		var e api.Errno
		if left, e = Less(leaves, left, c.Pattern); e != api.OK {
			return
		}
	}
	left, e := Normal(leaves, left)
	if e != api.OK {
		return
	}
	if ok != (len(left) == 0) || !ok && !same(v, firstOf(left)) {
		t.Fatalf("exhaustive %v, %v; left is %s", ok, v, show(left))
	}
}

func firstOf(p Pattern) Value {
	if len(p[0].Kids) == 0 {
		return leaf(p[0].Leaves[0])
	}
	var v Value
	for _, k := range p[0].Kids {
		v.Kids = append(v.Kids, firstOf(k))
	}
	return v
}

// TestFew: trees of at most 20 parts are not too large. It changes matches as long as their trees grow.
func TestFew(t *testing.T) {
	biggest := 0
	for seed := range uint64(60) {
		m := maker{sample.Source(seed), 2 + int(seed%5)}
		var operand Pattern
		var l []Case
		size := 0
		for range 250 {
			next, changed := slices.Clone(l), operand
			switch n := m.pick(6); {
			case n == 0:
				changed = m.pattern(1+m.pick(4), 2)
			case n < 4 || len(next) == 0:
				next = append(next, Case{m.pattern(1+m.pick(4), 2), m.pick(3) > 0})
			default:
				next[m.pick(len(next))] = Case{m.pattern(1+m.pick(4), 2), m.pick(3) > 0}
			}
			count := parts(changed)
			for _, c := range next {
				count += parts(c.Pattern)
			}
			if count > 20 || len(next) > 64 {
				continue
			}
			tree, e := Decide(m.leaves, changed, next)
			if e != api.OK {
				t.Fatalf("seed %d: a match of %d parts: error %d", seed, count, e)
			}
			if n := trees(tree); n >= size {
				l, operand, size = next, changed, n
			}
		}
		biggest = max(biggest, size)
	}
	t.Logf("at most %d trees", biggest)
	// 19 guards over leaves, each set of which is another one.
	var l []Case
	for i := range 19 {
		var set []int
		for k := range api.MaxUnits {
			if (k*2654435761>>(i%13))%8 > 0 {
				set = append(set, k)
			}
		}
		l = append(l, guarded(of(set...)))
	}
	if tree, e := Decide(api.MaxUnits, of(all()...), l); e != api.OK || trees(tree) > 5000 {
		t.Errorf("guards over leaves: %d trees, error %d", trees(tree), e)
	}
	// Rows of pairs, triples and quadruples, as many as 20 parts allow behind an operand.
	for size, rows := range map[int]int{2: 5, 3: 4, 4: 3} {
		var l []Case
		for i := range rows {
			var set []int
			for k := range 1 << rows {
				if k>>i&1 == 1 {
					set = append(set, k)
				}
			}
			l = append(l, guarded(tup(slices.Repeat([]Pattern{of(set...)}, size)...)))
		}
		operand := tup(slices.Repeat([]Pattern{of(all()...)}, size)...)
		tree, e := Decide(api.MaxUnits, operand, l)
		if e != api.OK {
			t.Errorf("rows of %d: error %d", size, e)
		}
		t.Logf("%d rows of %d: %d trees", rows, size, trees(tree))
	}
}

func TestFull(t *testing.T) {
	var l []Case
	for i := range 30 {
		var set []int
		for k := range api.MaxUnits {
			if (k*2654435761>>i)%2 == 0 {
				set = append(set, k)
			}
		}
		l = append(l, guarded(tup(of(set...), of(set...), of(set...), of(set...))))
	}
	x := of(all()...)
	if tree, e := Decide(api.MaxUnits, tup(x, x, x, x), l); e != api.ErrFull || !reflect.DeepEqual(tree, Tree{}) {
		t.Errorf("%d trees, error %d", trees(tree), e)
	}
	if tree, e := Decide(api.MaxUnits, tup(x, x), l); e != api.OK || !same(tree, fail()) {
		t.Errorf("cases of other tuples: %d trees, error %d", trees(tree), e)
	}
	for more, want := range []api.Errno{api.OK, api.ErrFull} {
		tree, e := Decide(api.MaxUnits, x, atLimit(more))
		if e != want || e == api.OK && trees(tree) != 5000 || e != api.OK && !same(tree, fail()) {
			t.Errorf("%d trees above the limit: %d trees, error %d, want %d", more, trees(tree), e, want)
		}
	}
}

// atLimit returns guards over leaves whose tree has 5000 trees, and so many more. To most leaves no case belongs.
func atLimit(more int) []Case {
	sets := make([][]int, 64)
	for guard := range sets {
		for leaf := range 79 {
			missing := []int{leaf, leaf} // 64 leaves without one guard, 14 without two
			if leaf >= 64 {
				missing = []int{0, leaf - 63}
			}
			if leaf == 78 && guard < 20+more || leaf < 78 && !slices.Contains(missing, guard) {
				sets[guard] = append(sets[guard], leaf)
			}
		}
	}
	var l []Case
	for _, set := range sets {
		l = append(l, guarded(of(set...)))
	}
	return l
}

// TestTogether: leaves behind which the same is open stand together, whatever operands say of parts of which no case asks.
func TestTogether(t *testing.T) {
	var operand Pattern
	for i := range 60 {
		operand = append(operand, tup(of(i), of(i))...)
	}
	x := of(all()...)
	for i, c := range []struct {
		l    []Case
		want int
	}{
		{[]Case{on(tup(of(0), of(0))), on(tup(x, x))}, 4}, {[]Case{on(tup(of(0, 1), of(0))), on(tup(x, x))}, 4}, {[]Case{guarded(tup(of(0, 1), of(0))), on(tup(x, x))}, 5}, {[]Case{on(tup(of(7, 9), of(9)))}, 3}, {[]Case{on(tup(x, of(7, 9)))}, 3},
	} {
		if tree, e := Decide(api.MaxUnits, operand, c.l); e != api.OK || trees(tree) != c.want {
			t.Errorf("match %d: %d trees, error %d, want %d", i, trees(tree), e, c.want)
		}
	}
}

func TestOf(t *testing.T) {
	name := func(kind int, name string, l ...api.Type) api.Entity {
		return api.Entity{Kind: kind, Name: name, Cap: api.Ref, Provides: l}
	}
	typ := func(name string) api.Type { return api.Type{Kind: api.TypeName, Name: name, Cap: api.Ref} }
	many := func(kind int, l ...api.Type) api.Type { return api.Type{Kind: kind, Args: l} }
	create := api.Method{Kind: api.Fun, Name: "m", Cap: api.Iso}
	i := name(api.Interface, "I")
	i.Methods = []api.Method{{Kind: api.Fun, Name: "m", Cap: api.Val}}
	d := name(api.Class, "D", typ("S"))
	d.Methods = []api.Method{create}
	p := []api.Entity{name(api.Interface, "Any"), name(api.Trait, "T"), name(api.Trait, "S", typ("T")), name(api.Class, "A", typ("T")), i, name(api.Actor, "B"), name(api.Primitive, "C", typ("S")), d, name(api.Class, "T"), name(api.Trait, "A"), name(7, "Odd")}
	if l := Leaves(p); !slices.Equal(l, []string{"A", "B", "C", "D", "T"}) {
		t.Errorf("Leaves: %v", l)
	}
	a, b, c := typ("A"), typ("B"), typ("C")
	self := api.Type{Kind: api.TypeSelf}
	for i, x := range []struct {
		t    api.Type
		want string
	}{
		{a, "0"}, {typ("B"), "1"}, {api.Type{Kind: api.TypeName, Name: "C", Cap: 99, Mark: -4}, "2"}, {typ("T"), "0,2,3,4"}, {typ("S"), "2,3"}, {typ("Any"), "0,1,2,3,4"}, {typ("I"), "3"}, {many(api.TypeUnion, a, b, a), "0,1"}, {many(api.TypeBoth, typ("T"), typ("S")), "2,3"}, {many(api.TypeBoth, a, b), ""},
		{many(api.TypeTuple, a, many(api.TypeUnion, b, c)), "(0; 1,2)"}, {many(api.TypeUnion, many(api.TypeTuple, a, b), many(api.TypeTuple, c, b), b), "1 | (0,2; 1)"}, {many(api.TypeBoth, many(api.TypeTuple, typ("T"), b), many(api.TypeTuple, a, typ("Any"))), "(0; 1)"}, {many(api.TypeArrow, self, a), "0"}, {many(api.TypeArrow, api.Type{Kind: 99}, many(api.TypeTuple, a, a)), "(0; 0)"},
		{many(api.TypeTuple, many(api.TypeTuple, many(api.TypeTuple, a, a), a), a), "(((0; 0); 0); 0)"}, {many(api.TypeTuple, a, a, a, a), "(0; 0; 0; 0)"}, {many(api.TypeTuple, a, many(api.TypeBoth, a, b)), ""}, {api.Type{Kind: api.TypeUnion, Name: "x", Cap: 77, Args: []api.Type{a, a}}, "0"},
	} {
		if got, e := Of(p, x.t); e != api.OK || show(got) != x.want {
			t.Errorf("Of %d: %s, error %d, want %s", i, show(got), e, x.want)
		}
	}
	three := many(api.TypeTuple, many(api.TypeTuple, a, a), a)
	four := many(api.TypeTuple, many(api.TypeUnion, many(api.TypeArrow, self, many(api.TypeTuple, a, a)), a), a)
	withArgs := typ("Gone")
	withArgs.Args = []api.Type{self}
	for i, x := range []struct {
		p    []api.Entity
		t    api.Type
		want api.Errno
	}{
		{make([]api.Entity, api.MaxUnits+1), self, api.ErrSize}, {p, self, api.ErrType}, {p, api.Type{Kind: api.TypeParam, Name: "A"}, api.ErrType}, {p, withArgs, api.ErrForm}, {p, typ("Gone"), api.ErrNone}, {p, typ(""), api.ErrNone}, {p, api.Type{}, api.ErrForm}, {p, api.Type{Kind: 8}, api.ErrForm}, {p, many(api.TypeArrow, self), api.ErrForm}, {p, many(api.TypeArrow, a, a, a), api.ErrForm},
		{p, many(api.TypeUnion, self), api.ErrForm}, {p, many(api.TypeBoth), api.ErrForm}, {p, many(api.TypeTuple, self), api.ErrForm}, {p, many(api.TypeTuple, self, a, a, a, a), ErrPattern}, {p, many(api.TypeTuple, typ("Gone"), self), api.ErrNone}, {p, many(api.TypeTuple, a, self, typ("Gone")), api.ErrType}, {p, many(api.TypeTuple, many(api.TypeTuple, three, a), a), ErrPattern}, {p, many(api.TypeTuple, many(api.TypeTuple, four, a), a), ErrPattern}, {p, many(api.TypeTuple, four, a), api.OK},
		{p, many(api.TypeUnion, many(api.TypeTuple, three, self), many(api.TypeTuple, three, three)), api.ErrType}, {nil, a, api.ErrNone},
	} {
		if got, e := Of(x.p, x.t); e != x.want || e != api.OK && len(got) > 0 {
			t.Errorf("Of %d: %s, error %d, want %d", i, show(got), e, x.want)
		}
	}
	if l := Leaves(make([]api.Entity, api.MaxUnits+1)); len(l) > 0 {
		t.Errorf("Leaves of too many: %v", l)
	}
}

// TestLargeTypes has a type whose pattern has too many parts, and one that is no larger than it may be.
func TestLargeTypes(t *testing.T) {
	var p []api.Entity
	for _, c := range all() {
		p = append(p, api.Entity{Kind: api.Class, Name: string(rune(0x4e00 + c)), Cap: api.Ref})
	}
	one := func(n int) api.Type { return api.Type{Kind: api.TypeName, Name: p[n].Name, Cap: api.Ref} }
	stairs := func(n int) api.Type {
		u := api.Type{Kind: api.TypeUnion}
		for i := range n {
			u.Args = append(u.Args, api.Type{Kind: api.TypeTuple, Args: []api.Type{one(i), one(i), one(i), one(i)}})
		}
		return u
	}
	if got, e := Of(p, stairs(200)); e != api.OK || len(got) != 200 {
		t.Errorf("1000 parts: %d, error %d", len(got), e)
	}
	x := stairs(200)
	x.Args = append(x.Args, one(0))
	if got, e := Of(p, x); e != api.ErrLarge || len(got) > 0 {
		t.Errorf("1001 parts: %d, error %d", len(got), e)
	}
}

// TestTypes: promise 12.5.
func TestTypes(t *testing.T) {
	for seed := range uint64(2000) {
		pick := sample.Source(seed)
		p := sample.ProgramMaker{Pick: pick}.Program()
		names := map[int][]string{}
		for _, e := range p {
			names[0] = append(names[0], e.Name)
		}
		m := sample.TypeMaker{Pick: pick, Names: names, Params: nil}
		l := []api.Type{m.Type(2), m.Type(2)}
		a, e := Of(p, l[0])
		b, f := Of(p, l[1])
		u, g := Of(p, api.Type{Kind: api.TypeUnion, Args: l})
		n := len(Leaves(p))
		if e != api.OK || f != api.OK || g != api.OK {
			t.Fatalf("seed %d: errors %d, %d, %d", seed, e, f, g)
		}
		if want, e := Normal(n, or(a, b)); e == api.OK && !same(u, want) {
			t.Fatalf("seed %d: the union of %s and %s: %s", seed, show(a), show(b), show(u))
		}
		if len(a) == 1 && len(b) == 1 && len(a[0].Leaves) > 0 && len(b[0].Leaves) > 0 {
			sub := !slices.ContainsFunc(a[0].Leaves, func(n int) bool { return !slices.Contains(b[0].Leaves, n) })
			if ok, e := Within(n, b, a); ok != sub || e != api.OK {
				t.Fatalf("seed %d: %s within %s: %v, error %d", seed, show(a), show(b), ok, e)
			}
		}
	}
}

// TestAnything: promises 1 and 2, for programs and types, patterns, values and trees of any form.
func TestAnything(t *testing.T) {
	for seed := range uint64(3000) {
		all := func() any {
			pick := sample.Source(seed)
			p := sample.ProgramMaker{Pick: pick, Generic: true}.Garbage()
			m := sample.TypeMaker{Pick: pick, Names: map[int][]string{0: {"Any", "main.C0", "main.T0"}}}
			a, e := Of(p, m.Any(2))
			b, f := Of(p, m.Type(2))
			k := maker{pick, 3}
			q, v, x := spoiled(k, k.pattern(3, 3)), k.value(4), anyTree(k, 4)
			l := []Case{on(q), guarded(a), on(b)}
			c, g := Normal(3, q)
			d, h := Decide(3, q, l)
			n, i := Taken(3, l, v, make([]bool, pick(5)))
			ok, w, j := Exhaustive(3, k.pattern(2, 2), l)
			taken, tests, o := Run(3, x, v, make([]bool, pick(5)))
			return []any{a, e, b, f, c, g, d, h, n, i, ok, w, j, taken, tests, o, Check(3, q), CheckTree(3, 3, x)}
		}
		if !reflect.DeepEqual(all(), all()) {
			t.Fatalf("seed %d: other results", seed)
		}
	}
}

// spoiled changes a pattern somewhere.
func spoiled(m maker, p Pattern) Pattern {
	if len(p) == 0 || m.pick(3) == 0 {
		return append(slices.Clone(p), []Part{{}, {Leaves: []int{3}}, {Leaves: []int{1, 0}}, {Kids: []Pattern{nil}}, {Kids: []Pattern{p, p}}}[m.pick(5)])
	}
	p = slices.Clone(p)
	i := m.pick(len(p))
	if n := len(p[i].Kids); n > 0 {
		p[i].Kids = slices.Clone(p[i].Kids)
		k := m.pick(n)
		p[i].Kids[k] = spoiled(m, p[i].Kids[k])
	}
	return p
}

func anyTree(m maker, depth int) Tree {
	x := Tree{Kind: m.pick(4), Case: m.pick(2)}
	for range m.pick(3) {
		x.Path = append(x.Path, m.pick(3)-1)
	}
	for range m.pick(3) {
		x.Sorts = append(x.Sorts, []Sort{arity(2), arity(3), leaves(0), leaves(1, 2), leaves(5)}[m.pick(5)])
		if depth > 0 {
			x.Kids = append(x.Kids, anyTree(m, depth-1))
		}
	}
	return x
}

// box makes a tuple of tuples of some leaves.
func (m maker) box(outer, inner int) Pattern {
	var kids []Pattern
	for range outer {
		var l []Pattern
		for range inner {
			mask := 1 + m.pick(1<<m.leaves-1)
			var some []int
			for n := range m.leaves {
				if mask>>n&1 == 1 {
					some = append(some, n)
				}
			}
			l = append(l, of(some...))
		}
		kids = append(kids, tup(l...))
	}
	return tup(kids...)
}

// TestNested compares matches of tuples of tuples, many of which overlap, with all values.
func TestNested(t *testing.T) {
	exhaustive, never := 0, 0
	for seed := range uint64(3000) {
		m := maker{sample.Source(seed), 2 + int(seed%2)}
		outer, inner := 2+m.pick(2), 2
		full := slices.Repeat([]Pattern{of(all()[:m.leaves]...)}, inner)
		operand := tup(slices.Repeat([]Pattern{tup(full...)}, outer)...)
		if seed%3 == 0 {
			operand = or(m.box(outer, inner), m.box(outer, inner), m.box(outer, inner))
		}
		var l []Case
		for range 1 + m.pick(12) {
			var p Pattern
			for range 1 + m.pick(4) {
				p = or(p, m.box(outer, inner))
			}
			l = append(l, Case{p, m.pick(5) == 0})
		}
		values, whole := every(operand)
		if !whole {
			continue
		}
		reaches(t, m.leaves, operand, l, values)
		if ok, _, _ := Exhaustive(m.leaves, operand, l); ok {
			exhaustive++
		}
		if l, _ := Unreachable(m.leaves, operand, l); len(l) > 0 {
			never++
		}
	}
	if exhaustive < 100 || never < 300 {
		t.Errorf("%d are exhaustive, %d have unreachable cases", exhaustive, never)
	}
}

// TestLargeNested has 64 cases of tuples in tuples in tuples over 200 leaves.
func TestLargeNested(t *testing.T) {
	for seed := range uint64(6) {
		m := maker{sample.Source(seed), api.MaxUnits}
		leaves := func() Pattern {
			l := all()
			return of(slices.DeleteFunc(l, func(int) bool { return m.pick(4) > 0 })...)
		}
		var nested func(depth int) Pattern
		nested = func(depth int) Pattern {
			if depth == 1 {
				return leaves()
			}
			return tup(nested(depth-1), nested(depth-1))
		}
		var l []Case
		for range 64 {
			p := or(nested(4), nested(3), nested(4), nested(3), nested(2))
			l = append(l, on(p))
		}
		whole := of(all()...)
		whole = or(whole, tup(whole, whole))
		whole = or(whole, tup(whole, whole))
		whole = tup(whole, whole)
		if never, e := Unreachable(api.MaxUnits, whole, append(l, l[7], on(whole), l[9])); e != api.ErrSize || len(never) > 0 {
			t.Errorf("67 cases: %v, error %d", never, e)
		}
		if never, e := Unreachable(api.MaxUnits, whole, append(l[:61:61], l[7], on(whole), l[9])); e != api.OK || !slices.Equal(never, []int{61, 63}) {
			t.Errorf("seed %d: Unreachable: %v, error %d", seed, never, e)
		}
		for i, c := range l {
			if ok, e := Within(api.MaxUnits, whole, c.Pattern); !ok || e != api.OK {
				t.Errorf("seed %d: Within of the case %d: %v, error %d", seed, i, ok, e)
			}
		}
		if ok, _, e := Exhaustive(api.MaxUnits, whole, append(l[:62:62], on(whole))); !ok || e != api.OK {
			t.Errorf("seed %d: Exhaustive: %v, error %d", seed, ok, e)
		}
	}
}
