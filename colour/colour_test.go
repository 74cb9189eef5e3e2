package colour_test

import (
	"reflect"
	"slices"
	"testing"

	"hackamore/api"
	. "hackamore/colour"
	"hackamore/internal/sample"
)

// class returns the entries of a class for some selectors, all by one method.
func class(selectors ...int) []Entry {
	var l []Entry
	for _, s := range selectors {
		l = append(l, Entry{s, 0})
	}
	return l
}

func world(classes ...[]Entry) World { return World{Classes: classes, Bodies: make([]Body, 1)} }

// chance returns a world by chance with few selectors.
func chance(pick func(int) int, selectors int) World {
	w := World{Bodies: make([]Body, 1+pick(8))}
	for range pick(6) {
		var l []Entry
		for s := range selectors {
			if pick(3) == 0 {
				l = append(l, Entry{s * 3, pick(len(w.Bodies))})
			}
		}
		w.Classes = append(w.Classes, l)
	}
	list := func(n int) []int {
		var l []int
		for range pick(3) {
			if n > 0 {
				l = append(l, pick(n))
			}
		}
		return l
	}
	for i := range w.Bodies {
		w.Bodies[i] = Body{list(3 * selectors), list(len(w.Bodies)), list(len(w.Classes))}
	}
	w.Roots = list(len(w.Bodies))
	return w
}

func sized(n int) []int { return make([]int, n) }

// TestCheck: each error of a world, by the functions that return it.
func TestCheck(t *testing.T) {
	upTo := func(n int) []Entry {
		var l []Entry
		for s := range n {
			l = append(l, Entry{s, 0})
		}
		return l
	}
	for i, c := range []struct {
		w World
		e api.Errno
	}{
		{World{}, api.OK},
		{World{Classes: make([][]Entry, 201)}, api.ErrSize}, {World{Classes: make([][]Entry, 200)}, api.OK}, {World{Bodies: make([]Body, 501)}, api.ErrSize}, {World{Bodies: make([]Body, 500)}, api.OK}, {World{Roots: sized(65), Bodies: make([]Body, 1)}, api.ErrSize}, {World{Roots: sized(64), Bodies: make([]Body, 1)}, api.OK},
		{world(upTo(101)), api.ErrSize}, {world(upTo(100)), api.OK}, {world(class(-1), upTo(101)), api.ErrSize},
		{World{Bodies: []Body{{Selectors: sized(101)}}}, api.ErrSize}, {World{Bodies: []Body{{Methods: sized(101)}}}, api.ErrSize}, {World{Bodies: []Body{{Classes: sized(101)}}}, api.ErrSize}, {World{Bodies: []Body{{Selectors: sized(100), Methods: sized(100)}}}, api.OK}, {World{Classes: [][]Entry{class(-1)}, Bodies: []Body{{}, {Methods: sized(101)}}}, api.ErrSize},
		{world(class(-1)), api.ErrRange}, {world(class(500)), api.ErrRange}, {world(class(499)), api.OK}, {world([]Entry{{0, 1}}), api.ErrRange}, {world([]Entry{{0, -1}}), api.ErrRange}, {World{Classes: [][]Entry{class(1)}}, api.ErrRange},
		{world(class(1, 1)), api.ErrOrder}, {world(class(2, 1)), api.ErrOrder}, {world(class(2, 1, 500)), api.ErrOrder}, {world(class(2, 500, 1)), api.ErrRange}, {world(class(2, -1)), api.ErrRange}, {world(class(1), class(2, 2), class(-1)), api.ErrOrder},
		{World{Bodies: []Body{{Selectors: []int{500}}}}, api.ErrRange}, {World{Bodies: []Body{{Selectors: []int{-1}}}}, api.ErrRange}, {World{Bodies: []Body{{Selectors: []int{499, 3, 3}}}}, api.OK}, {World{Bodies: []Body{{Methods: []int{1}}}}, api.ErrRange}, {World{Bodies: []Body{{Methods: []int{0, -1}}}}, api.ErrRange}, {World{Bodies: []Body{{Classes: []int{0}}}}, api.ErrRange},
		{World{Roots: []int{0}}, api.ErrRange}, {World{Roots: []int{-1}, Bodies: make([]Body, 1)}, api.ErrRange},
		{World{Classes: [][]Entry{class(2, 1)}, Bodies: []Body{{Methods: []int{9}}}}, api.ErrOrder},
	} {
		_, _, _, e1 := Reach(c.w)
		_, e2 := Conflicts(c.w)
		colours, e3 := Colours(c.w)
		e4 := CheckColours(c.w, colours)
		_, e5 := Least(c.w)
		_, _, e6 := Grow(c.w, colours, nil)
		_, _, e7 := Pack(c.w, colours)
		_, e8 := Table(c.w, colours, 0)
		if e5 == api.ErrFull {
			e5 = api.OK
		}
		if c.e == api.OK && len(c.w.Classes) == 200 {
			e6 = api.OK
		}
		if c.e == api.OK {
			e8 = api.OK
		}
		got := []api.Errno{Check(c.w), e1, e2, e3, e4, e5, e6, e7, e8}
		if slices.ContainsFunc(got, func(e api.Errno) bool { return e != c.e }) {
			t.Errorf("%d: errors %v, not %d", i, got, c.e)
		}
	}
}

func TestExamples(t *testing.T) {
	w := world(class(0, 1), class(1, 2))
	if l, e := Conflicts(w); e != api.OK || !slices.Equal(l, [][2]int{{0, 1}, {1, 2}}) {
		t.Errorf("%v", l)
	}
	if n, e := Least(w); n != 2 || e != api.OK {
		t.Errorf("%d", n)
	}
	c := []int{0, 1, 0}
	a, _ := Table(w, c, 0)
	b, _ := Table(w, c, 1)
	if !slices.Equal(a, []Slot{{0, 0}, {1, 0}}) || !slices.Equal(b, []Slot{{2, 0}, {1, 0}}) {
		t.Errorf("%v %v", a, b)
	}
	vector, offsets, e := Pack(w, c)
	if e != api.OK || !slices.Equal(offsets, []int{0, 2}) || !slices.Equal(vector, []Slot{{0, 0}, {1, 0}, {2, 0}, {1, 0}}) {
		t.Errorf("%v %v", vector, offsets)
	}
	next, changed, e := Grow(w, c, class(0, 2))
	if e != api.OK || !slices.Equal(next, []int{0, 1, 2}) || !slices.Equal(changed, []int{2}) {
		t.Errorf("%v %v", next, changed)
	}
}

func TestCheckColours(t *testing.T) {
	w := world(class(0, 1, 4), class(1, 3))
	for i, c := range []struct {
		colours []int
		e       api.Errno
	}{
		{[]int{0, 1, -1, 0, 2}, api.OK}, {[]int{499, 1, -1, 0, 2}, api.OK}, {[]int{0, 1, -1, 0}, api.ErrSize}, {[]int{0, 1, -1, 0, 2, -1}, api.ErrSize}, {nil, api.ErrSize},
		{[]int{0, 1, 3, 0, 2}, api.ErrRange}, {[]int{-1, 1, -1, 0, 2}, api.ErrRange}, {[]int{0, 1, -2, 0, 2}, api.ErrRange}, {[]int{500, 1, -1, 0, 2}, api.ErrRange}, {[]int{0, 1, -1, -2, 2}, api.ErrRange}, {[]int{0, 0, -1, 0, 500}, api.ErrRange},
		{[]int{0, 0, -1, 0, 2}, ErrClash}, {[]int{0, 1, -1, 1, 2}, ErrClash}, {[]int{0, 1, -1, 2, 0}, ErrClash},
	} {
		_, e1 := Table(w, c.colours, 5)
		_, _, e2 := Pack(w, c.colours)
		_, _, e3 := Grow(w, c.colours, class(9, 1))
		if c.e == api.OK && e1 == api.ErrNone && e3 == api.ErrOrder {
			e1, e3 = api.OK, api.OK
		}
		if e := CheckColours(w, c.colours); e != c.e || e1 != c.e || e2 != c.e || e3 != c.e {
			t.Errorf("%d: errors %d %d %d %d, not %d", i, e, e1, e2, e3, c.e)
		}
	}
	for _, n := range []int{-1, 2} {
		if l, e := Table(w, []int{0, 1, -1, 0, 2}, n); l != nil || e != api.ErrNone {
			t.Errorf("the class %d: %v, error %d", n, l, e)
		}
	}
	if l, e := Table(world(class(5), nil), []int{-1, -1, -1, -1, -1, 3}, 1); len(l) != 0 || e != api.OK {
		t.Errorf("no entries: %v, error %d", l, e)
	}
	if l, e := Table(world(class(5)), []int{-1, -1, -1, -1, -1, 2}, 0); e != api.OK || !slices.Equal(l, []Slot{{-1, -1}, {-1, -1}, {5, 0}}) {
		t.Errorf("%v, error %d", l, e)
	}
	if CheckColours(World{}, nil) != api.OK || CheckColours(World{}, []int{-1}) != api.ErrSize {
		t.Error("no colours")
	}
}

// reachedSlowly goes on until nothing comes any more.
func reachedSlowly(w World) (l [3][]int) {
	var in [3]map[int]bool
	for i := range in {
		in[i] = map[int]bool{}
	}
	for _, r := range w.Roots {
		in[0][r] = true
	}
	for range 100 {
		for m := range w.Bodies {
			if !in[0][m] {
				continue
			}
			for k, list := range [3][]int{w.Bodies[m].Methods, w.Bodies[m].Classes, w.Bodies[m].Selectors} {
				for _, n := range list {
					in[k][n] = true
				}
			}
		}
		for c, entries := range w.Classes {
			for _, x := range entries {
				if in[1][c] && in[2][x.Selector] {
					in[0][x.Method] = true
				}
			}
		}
	}
	for i := range l {
		for n := range 600 {
			if in[i][n] {
				l[i] = append(l[i], n)
			}
		}
	}
	return l
}

// TestReach checks P23.2.
func TestReach(t *testing.T) {
	classes := 0
	for seed := range 400 {
		pick := sample.Source(uint64(seed))
		w := chance(pick, 5)
		m, c, s, e := Reach(w)
		want := reachedSlowly(w)
		if e != api.OK || !slices.Equal(m, want[0]) || !slices.Equal(c, want[1]) || !slices.Equal(s, want[2]) {
			t.Fatalf("seed %d: %v %v %v, not %v", seed, m, c, s, want)
		}
		classes += len(c)
		w.Roots = append(slices.Clone(w.Roots), pick(len(w.Bodies)))
		more, _, _, _ := Reach(w)
		if slices.ContainsFunc(m, func(x int) bool { return !slices.Contains(more, x) }) {
			t.Errorf("seed %d: %v, with one more root %v", seed, m, more)
		}
	}
	if classes < 50 {
		t.Errorf("%d classes", classes)
	}
	w := World{Classes: [][]Entry{{{3, 2}}}, Bodies: []Body{{Selectors: []int{3}}, {Classes: []int{0}}, {Methods: []int{2}}}, Roots: []int{0, 1}}
	if m, c, s, _ := Reach(w); !slices.Equal(m, []int{0, 1, 2}) || !slices.Equal(c, []int{0}) || !slices.Equal(s, []int{3}) {
		t.Errorf("%v %v %v", m, c, s)
	}
	w.Roots = []int{0}
	if m, c, _, _ := Reach(w); !slices.Equal(m, []int{0}) || len(c) != 0 {
		t.Errorf("%v %v", m, c)
	}
}

func conflict(w World, a, b int) bool {
	understands := func(l []Entry, s int) bool {
		return slices.ContainsFunc(l, func(x Entry) bool { return x.Selector == s })
	}
	return a != b && slices.ContainsFunc(w.Classes, func(l []Entry) bool { return understands(l, a) && understands(l, b) })
}

func understood(w World) []int {
	var l []int
	for _, c := range w.Classes {
		for _, x := range c {
			l = append(l, x.Selector)
		}
	}
	slices.Sort(l)
	return slices.Compact(l)
}

// least finds the least number of colours by trying all.
func least(w World) int {
	l := understood(w)
	for n := 0; ; n++ {
		colours := make([]int, len(l))
		var try func(i int) bool
		try = func(i int) bool {
			if i == len(l) {
				return true
			}
			for c := range n {
				colours[i] = c
				fits := true
				for k := range i {
					fits = fits && (colours[k] != c || !conflict(w, l[k], l[i]))
				}
				if fits && try(i+1) {
					return true
				}
			}
			return false
		}
		if try(0) {
			return n
		}
	}
}

// TestColours checks P23.3.
func TestColours(t *testing.T) {
	for seed := range 400 {
		pick := sample.Source(uint64(seed))
		w := chance(pick, 7)
		c, e := Colours(w)
		if e != api.OK || CheckColours(w, c) != api.OK {
			t.Fatalf("seed %d: %v", seed, c)
		}
		known := understood(w)
		degree, greatest, rows := 0, -1, 0
		var pairs [][2]int
		for _, a := range known {
			n := 0
			for _, b := range known {
				if conflict(w, a, b) {
					n++
					if a < b {
						pairs = append(pairs, [2]int{a, b})
					}
				}
			}
			degree, greatest = max(degree, n), max(greatest, c[a])
		}
		for k := range greatest + 1 {
			if !slices.Contains(c, k) {
				t.Errorf("seed %d: nothing has the colour %d: %v", seed, k, c)
			}
		}
		for _, l := range w.Classes {
			rows = max(rows, len(l))
		}
		n, e := Least(w)
		if greatest > degree || greatest+1 < rows || greatest+1 < n || n < rows || e != api.OK || n != least(w) {
			t.Errorf("seed %d: %v, degree %d, least %d (not %d)", seed, c, degree, n, least(w))
		}
		if l, _ := Conflicts(w); !slices.Equal(l, pairs) {
			t.Errorf("seed %d: %v, not %v", seed, l, pairs)
		}
		slices.Reverse(w.Classes)
		if again, _ := Least(w); again != n {
			t.Errorf("seed %d: %d, reversed %d", seed, n, again)
		}
		w.Classes = append(w.Classes, class(0, 3, 9))
		if more, _ := Least(w); more < n {
			t.Errorf("seed %d: %d, with one more class %d", seed, n, more)
		}
	}
	all := make([][]Entry, 0)
	for i := range 12 {
		all = append(all, class(40*i))
	}
	if n, e := Least(world(all...)); n != 1 || e != api.OK {
		t.Errorf("%d, error %d", n, e)
	}
	if n, e := Least(world(append(all, class(499))...)); n != 0 || e != api.ErrFull {
		t.Errorf("%d, error %d", n, e)
	}
	if n, e := Least(world(class(0, 1, 2, 3, 4, 5, 6, 7, 8, 9, 10, 11))); n != 12 || e != api.OK {
		t.Errorf("%d, error %d", n, e)
	}
}

// grown does what the chapter says of Grow.
func grown(w World, colours []int, l []Entry) (next, changed []int) {
	w.Classes = append(slices.Clone(w.Classes), l)
	next = slices.Clone(colours)
	for _, x := range l {
		for len(next) <= x.Selector {
			next = append(next, -1)
		}
	}
	lowest := func(s int) int {
		for c := 0; ; c++ {
			taken := false
			for o, oc := range next {
				taken = taken || oc == c && conflict(w, o, s)
			}
			if !taken {
				return c
			}
		}
	}
	for i, x := range l {
		twice := slices.ContainsFunc(l[:i], func(y Entry) bool { return next[y.Selector] == next[x.Selector] })
		switch {
		case next[x.Selector] < 0:
			next[x.Selector] = lowest(x.Selector)
		case twice:
			next[x.Selector] = lowest(x.Selector)
			changed = append(changed, x.Selector)
		}
	}
	return next, changed
}

// TestGrow checks P23.5.
func TestGrow(t *testing.T) {
	changes := 0
	for seed := range 500 {
		pick := sample.Source(uint64(seed))
		w := chance(pick, 7)
		c, _ := Colours(w)
		for i, x := range c { // other colours than those of Colours
			if x >= 0 && pick(4) == 0 {
				c[i] = x + 10*pick(4)
			}
		}
		if CheckColours(w, c) != api.OK {
			continue
		}
		l := chance(pick, 8)
		l.Classes = append(l.Classes, class(3*pick(9)))
		added := l.Classes[0]
		for i := range added {
			added[i].Method = 0
		}
		next, changed, e := Grow(w, c, added)
		wantNext, wantChanged := grown(w, c, added)
		if e != api.OK || !slices.Equal(next, wantNext) || !slices.Equal(changed, wantChanged) {
			t.Fatalf("seed %d: %v %v, not %v %v", seed, next, changed, wantNext, wantChanged)
		}
		changes += len(changed)
		w.Classes = append(slices.Clone(w.Classes), added)
		if e := CheckColours(w, next); e != api.OK {
			t.Errorf("seed %d: error %d", seed, e)
		}
		for s, x := range c {
			if x >= 0 && x != next[s] && !slices.Contains(changed, s) {
				t.Errorf("seed %d: %d has changed", seed, s)
			}
		}
	}
	if changes < 20 {
		t.Errorf("%d changes", changes)
	}
	w := world(class(0, 1))
	for i, c := range []struct {
		l []Entry
		e api.Errno
	}{{class(1, 1), api.ErrOrder}, {class(500), api.ErrRange}, {[]Entry{{2, 1}}, api.ErrRange}, {make([]Entry, 101), api.ErrSize}, {nil, api.OK}, {class(499), api.OK}} {
		next, changed, e := Grow(w, []int{5, 6}, c.l)
		if e != c.e || e != api.OK && (next != nil || changed != nil) {
			t.Errorf("%d: error %d, not %d", i, e, c.e)
		}
	}
	if _, _, e := Grow(World{Classes: make([][]Entry, 200)}, nil, nil); e != api.ErrSize {
		t.Errorf("201 classes: error %d", e)
	}
}

// TestPack checks P23.4.
func TestPack(t *testing.T) {
	for seed := range 400 {
		pick := sample.Source(uint64(seed))
		w := chance(pick, 7)
		c, _ := Colours(w)
		vector, offsets, e := Pack(w, c)
		if e != api.OK || len(offsets) != len(w.Classes) {
			t.Fatalf("seed %d: error %d", seed, e)
		}
		var want []Slot
		taken := map[int]bool{}
		for k, l := range w.Classes {
			table, _ := Table(w, c, k)
			for s := range 30 {
				i := slices.IndexFunc(l, func(x Entry) bool { return x.Selector == s })
				got := Lookup(vector, offsets, c, k, s)
				if i < 0 && got != -1 || i >= 0 && got != l[i].Method {
					t.Errorf("seed %d: class %d, selector %d: %d", seed, k, s, got)
				}
			}
			fits := func(at int) bool {
				for i, x := range table {
					if x.Selector >= 0 && at+i < len(want) && want[at+i].Selector >= 0 {
						return false
					}
				}
				return !taken[at]
			}
			at := 0
			for !fits(at) {
				at++
			}
			taken[at] = true
			for len(want) < at+len(table) {
				want = append(want, Slot{-1, -1})
			}
			for i, x := range table {
				if x.Selector >= 0 {
					want[at+i] = x
				}
			}
			if offsets[k] != at {
				t.Errorf("seed %d: class %d at %d, not %d", seed, k, offsets[k], at)
			}
		}
		if !slices.Equal(vector, want) {
			t.Errorf("seed %d: %v, not %v", seed, vector, want)
		}
	}
	vector, offsets, c := []Slot{{0, 7}, {3, 8}, {-1, -1}, {1, 9}}, []int{0, 2, -5, 1 << 62}, []int{0, 1, -1, 1, -9, 1 << 62}
	for i, x := range [][3]int{{0, 0, 7}, {0, 3, 8}, {0, 1, -1}, {1, 1, 9}, {1, 0, -1}, {-1, 0, -1}, {4, 0, -1}, {0, -1, -1}, {0, 6, -1}, {0, 2, -1}, {0, 4, -1}, {2, 0, -1}, {3, 0, -1}, {3, 5, -1}, {0, 5, -1}} {
		if got := Lookup(vector, offsets, c, x[0], x[1]); got != x[2] {
			t.Errorf("%d: %d", i, got)
		}
	}
	if Lookup(nil, nil, nil, 0, 0) != -1 {
		t.Error("nothing")
	}
	if vector, offsets, e := Pack(world(nil, nil, class(0)), []int{0}); e != api.OK || !reflect.DeepEqual(offsets, []int{0, 1, 2}) || len(vector) != 3 {
		t.Errorf("%v %v", vector, offsets)
	}
}
