package cap_test

import (
	"math"
	"reflect"
	"slices"
	"testing"

	"hackamore/api"
	. "hackamore/cap"
	"hackamore/internal/sample"
)

func yard(t *testing.T, holders int, acts ...Act) Yard {
	t.Helper()
	y, e := NewYard(holders)
	if e != api.OK {
		t.Fatalf("NewYard(%d): error %d", holders, e)
	}
	for i, a := range acts {
		if y, e = Do(y, a); e != api.OK {
			t.Fatalf("act %d, %v: error %d", i, a, e)
		}
	}
	return y
}

// same reports whether two yards are equal, where empty lists are nil ones.
func same(a, b Yard) bool {
	equal := func(a, b [][]Held) bool { return slices.EqualFunc(a, b, slices.Equal[[]Held]) }
	return equal(a.Holders, b.Holders) && equal(a.Fields, b.Fields)
}

func refs(acts ...Act) []Act { return acts }

// two makes two things with ref fields, which the holder 0 holds as iso.
func two() []Act {
	return refs(Act{Op: Make, A: api.Ref, B: api.Ref, C: api.Iso}, Act{Op: Make, A: api.Ref, B: api.Ref, C: api.Iso})
}

func TestNewYard(t *testing.T) {
	for n := -1; n <= MaxHolders+1; n++ {
		y, e := NewYard(n)
		if n >= 1 && n <= MaxHolders {
			if e != api.OK || len(y.Holders) != n || len(y.Fields) > 0 || Check(y) != api.OK {
				t.Errorf("NewYard(%d): %v, error %d", n, y, e)
			}
		} else if e != api.ErrRange || !same(y, Yard{}) {
			t.Errorf("NewYard(%d): %v, error %d", n, y, e)
		}
	}
}

// TestExample is that of chapter 7.
func TestExample(t *testing.T) {
	y := yard(t, 2, append(two(), Act{Op: Write, A: 0, B: 0, C: 1, D: 1})...)
	if want := (Yard{[][]Held{{{0, api.Iso}}, nil}, [][]Held{{{1, api.Ref}, {-1, api.Ref}}, {{-1, api.Ref}, {-1, api.Ref}}}}); !same(y, want) {
		t.Fatalf("behind the write: %v", y)
	}
	if got, want := Seen(y, 0), []Held{{0, api.Iso}, {1, api.Tag}}; !slices.Equal(got, want) {
		t.Errorf("Seen: %v, want %v", got, want)
	}
	if _, e := Do(y, Act{Op: Read, A: 0, B: 0, C: api.Ref}); e != api.ErrCap {
		t.Errorf("Read with ref: error %d", e)
	}
	y = yard(t, 2, append(two(), Act{Op: Write, A: 0, B: 0, C: 1, D: 1}, Act{Op: Move, A: 0, B: api.Ref}, Act{Op: Read, A: 0, B: 0, C: api.Ref})...)
	if want := []Held{{0, api.Ref}, {1, api.Ref}}; !slices.Equal(y.Holders[0], want) || !slices.Equal(Seen(y, 0), want) {
		t.Errorf("behind Read: %v, seen %v", y, Seen(y, 0))
	}
	if _, e := Do(y, Act{Op: Give, A: 0, B: 1, C: api.Iso, D: 1}); e != api.ErrCap {
		t.Errorf("Give with iso: error %d", e)
	}
}

// TestActs looks at what each act does.
func TestActs(t *testing.T) {
	ref, iso, trn, val, tag := api.Ref, api.Iso, api.Trn, api.Val, api.Tag
	mk := func(a, b, c int) Act { return Act{Op: Make, A: a, B: b, C: c} }
	for i, x := range []struct {
		acts          []Act
		first, second []Held
		field         Held
	}{
		{refs(mk(iso, ref, trn)), []Held{{0, trn}}, nil, Held{-1, iso}},
		{refs(mk(iso, ref, trn), Act{Op: Copy, B: api.Box}), []Held{{0, trn}, {0, api.Box}}, nil, Held{-1, iso}},
		{refs(mk(iso, ref, trn), Act{Op: Move, B: val}), []Held{{0, val}}, nil, Held{-1, iso}},
		{refs(mk(iso, ref, ref), mk(ref, ref, iso), Act{Op: Write, A: 0, B: 0, C: 1, D: 1}), []Held{{0, ref}}, nil, Held{1, iso}},
		{refs(mk(tag, ref, ref), mk(ref, ref, iso), Act{Op: Write, A: 0, B: 0, C: 1, D: 0}), []Held{{0, ref}, {1, iso}}, nil, Held{1, tag}},
		{refs(mk(ref, ref, ref), Act{Op: Write, A: 0, B: 0, C: 0, D: 0}), []Held{{0, ref}}, nil, Held{0, ref}},
		{refs(mk(iso, ref, ref), mk(ref, ref, iso), mk(ref, ref, iso), Act{Op: Write, A: 0, B: 0, C: 1, D: 1}, Act{Op: Write, A: 0, B: 0, C: 1, D: 1}), []Held{{0, ref}, {1, iso}}, nil, Held{2, iso}},
		{refs(mk(trn, ref, trn), mk(ref, ref, trn), mk(ref, ref, trn), Act{Op: Write, A: 0, B: 0, C: 1, D: 1}, Act{Op: Write, A: 0, B: 0, C: 1, D: 1}), []Held{{0, trn}, {1, api.Box}}, nil, Held{2, trn}},
		{refs(mk(ref, ref, iso), mk(ref, ref, val), mk(ref, ref, val), Act{Op: Move, A: 0, B: iso}, Act{Op: Drop, A: 1}), []Held{{0, iso}, {2, val}}, nil, Held{-1, ref}},
		{refs(mk(ref, val, ref), mk(ref, ref, val), Act{Op: Write, A: 0, B: 1, C: 1, D: 0}, Act{Op: Read, A: 0, B: 1, C: api.Box}), []Held{{0, ref}, {1, val}, {1, api.Box}}, nil, Held{-1, ref}},
		{refs(mk(ref, ref, iso), Act{Op: Give, A: 0, B: 1, C: val, D: 1}), nil, []Held{{0, val}}, Held{-1, ref}},
		{refs(mk(ref, ref, ref), Act{Op: Give, A: 0, B: 1, C: tag, D: 0}), []Held{{0, ref}}, []Held{{0, tag}}, Held{-1, ref}},
		{refs(mk(ref, ref, iso), Act{Op: Give, A: 0, B: 1, C: iso, D: 1}, Act{Op: Copy, Holder: 1, A: 0, B: tag}), nil, []Held{{0, iso}, {0, tag}}, Held{-1, ref}},
	} {
		y := yard(t, 2, x.acts...)
		if !slices.Equal(y.Holders[0], x.first) || !slices.Equal(y.Holders[1], x.second) || y.Fields[0][0] != x.field {
			t.Errorf("acts %d: %v", i, y)
		}
	}
}

// TestRefused has the errors of acts, each ahead of those that the text names behind it.
func TestRefused(t *testing.T) {
	base := yard(t, 2, append(two(), Act{Op: Make, A: api.Val, B: api.Tag, C: api.Ref}, Act{Op: Copy, A: 2, B: api.Tag})...)
	// The references of the holder 0: 0 and 1 iso, 2 ref of the thing 2, 3 tag of it.
	for i, x := range []struct {
		a    Act
		want api.Errno
	}{
		{Act{Op: Drop, Holder: -1}, api.ErrRange}, {Act{Op: 99, Holder: 2}, api.ErrRange}, {Act{Op: -1}, api.ErrArg}, {Act{Op: 7}, api.ErrArg},
		{Act{Op: Make, A: 0, B: api.Ref, C: api.Ref}, api.ErrCap}, {Act{Op: Make, A: api.Ref, B: api.CapAny, C: api.Ref}, api.ErrCap}, {Act{Op: Make, A: api.Ref, B: api.Ref}, api.ErrCap},
		{Act{Op: Copy, A: 4, B: api.Tag}, api.ErrRange}, {Act{Op: Copy, A: -1, B: 0}, api.ErrRange}, {Act{Op: Copy, A: 0, B: api.Iso}, api.ErrCap}, {Act{Op: Copy, A: 0, B: 0}, api.ErrCap},
		{Act{Op: Copy, Holder: 1, A: 0, B: api.Tag}, api.ErrRange},
		{Act{Op: Move, A: 4, B: api.Tag}, api.ErrRange}, {Act{Op: Move, A: 3, B: api.Ref}, api.ErrCap}, {Act{Op: Move, A: 2, B: 77}, api.ErrCap},
		{Act{Op: Read, A: 0, B: 2}, api.ErrRange}, {Act{Op: Read, A: 0, B: -1}, api.ErrRange}, {Act{Op: Read, A: 9}, api.ErrRange}, {Act{Op: Read, A: 3, C: api.Tag}, api.ErrCap},
		{Act{Op: Read, A: 2, C: api.Tag}, api.ErrNone}, {Act{Op: Read, A: 2}, api.ErrNone},
		{Act{Op: Write, A: 0, B: 2, C: 1}, api.ErrRange}, {Act{Op: Write, A: 5, C: 1}, api.ErrRange}, {Act{Op: Write, C: 5}, api.ErrRange}, {Act{Op: Write, C: 5, D: 2}, api.ErrRange},
		{Act{Op: Write, C: 1, D: 2}, api.ErrArg}, {Act{Op: Write, C: 1, D: -1}, api.ErrArg}, {Act{Op: Write, D: 1}, api.ErrArg}, {Act{Op: Write, A: 3, C: 3, D: 1}, api.ErrArg},
		{Act{Op: Write, A: 2, B: 0, C: 0, D: 0}, api.ErrCap}, {Act{Op: Write, A: 3, B: 1, C: 0, D: 0}, api.ErrCap}, {Act{Op: Write, A: 0, B: 0, C: 2, D: 0}, api.ErrCap},
		{Act{Op: Give, A: 0, B: 2, C: api.Iso, D: 1}, api.ErrRange}, {Act{Op: Give, A: 9, B: 0}, api.ErrArg}, {Act{Op: Give, A: 9, B: 1, D: 5}, api.ErrRange},
		{Act{Op: Give, A: 0, B: 1, D: 5}, api.ErrArg}, {Act{Op: Give, A: 2, B: 1, C: api.Ref, D: 1}, api.ErrCap}, {Act{Op: Give, A: 0, B: 1, C: api.Iso, D: 0}, api.ErrCap},
		{Act{Op: Give, A: 0, B: 1, C: 0, D: 1}, api.ErrCap}, {Act{Op: Drop, A: 4}, api.ErrRange}, {Act{Op: Drop, A: -1}, api.ErrRange}, {Act{Op: Drop, A: math.MaxInt}, api.ErrRange},
	} {
		before := yard(t, 2, append(two(), Act{Op: Make, A: api.Val, B: api.Tag, C: api.Ref}, Act{Op: Copy, A: 2, B: api.Tag})...)
		y, e := Do(base, x.a)
		if e != x.want || !reflect.DeepEqual(y, Yard{}) {
			t.Errorf("act %d, %v: %v, error %d, want %d", i, x.a, y, e, x.want)
		}
		if !same(base, before) {
			t.Fatalf("act %d, %v changed the yard", i, x.a)
		}
	}
}

func TestFull(t *testing.T) {
	y := yard(t, 2, Act{Op: Make, A: api.Ref, B: api.Ref, C: api.Ref})
	for range MaxHeld - 1 {
		y, _ = Do(y, Act{Op: Copy, A: 0, B: api.Ref})
	}
	if len(y.Holders[0]) != MaxHeld || Check(y) != api.OK {
		t.Fatalf("%d references, error %d", len(y.Holders[0]), Check(y))
	}
	y, e := Do(y, Act{Op: Write, A: 0, B: 0, C: 1, D: 0})
	if e != api.OK {
		t.Fatalf("Write into an empty field: error %d", e)
	}
	for i, x := range []struct {
		a    Act
		want api.Errno
	}{
		{Act{Op: Copy, A: 0, B: api.Ref}, api.ErrFull}, {Act{Op: Make, A: api.Ref, B: api.Ref, C: api.Ref}, api.ErrFull}, {Act{Op: Make, A: api.Ref, B: api.Ref}, api.ErrCap},
		{Act{Op: Read, A: 0, B: 0, C: api.Ref}, api.ErrFull}, {Act{Op: Write, A: 0, B: 0, C: 1, D: 0}, api.ErrFull}, {Act{Op: Write, A: 0, B: 0, C: 1, D: 1}, api.OK},
		{Act{Op: Give, A: 0, B: 1, C: api.Tag}, api.OK}, {Act{Op: Move, A: 0, B: api.Box}, api.OK},
	} {
		if _, e := Do(y, x.a); e != x.want {
			t.Errorf("act %d, %v: error %d, want %d", i, x.a, e, x.want)
		}
	}
	for range MaxHeld {
		if y, e = Do(y, Act{Op: Give, A: 0, B: 1, C: api.Tag}); e != api.OK {
			t.Fatalf("Give: error %d", e)
		}
	}
	if _, e = Do(y, Act{Op: Give, A: 0, B: 1, C: api.Tag, D: 1}); e != api.ErrFull {
		t.Errorf("Give to one that has %d: error %d", MaxHeld, e)
	}
	many := yard(t, 1)
	for i := range MaxThings {
		if many, e = Do(many, Act{Op: Make, A: api.Ref, B: api.Ref, C: api.Ref}); e != api.OK {
			t.Fatalf("thing %d: error %d", i, e)
		}
		many, _ = Do(many, Act{Op: Drop})
	}
	if _, e := Do(many, Act{Op: Make, A: api.Ref, B: api.Ref, C: api.Ref}); e != api.ErrFull {
		t.Errorf("one thing too many: error %d", e)
	}
}

// TestCheck has wrong yards: each function refuses them.
func TestCheck(t *testing.T) {
	empty := []Held{{-1, api.Ref}, {-1, api.Ref}}
	long := make([]Held, MaxHeld+1)
	for i := range long {
		long[i] = Held{0, api.Tag}
	}
	things := make([][]Held, MaxThings+1)
	for i := range things {
		things[i] = empty
	}
	for i, x := range []struct {
		y    Yard
		want api.Errno
	}{
		{Yard{}, api.ErrSize}, {Yard{Holders: make([][]Held, 5)}, api.ErrSize}, {Yard{Holders: make([][]Held, 4)}, api.OK},
		{Yard{[][]Held{nil}, things}, api.ErrSize}, {Yard{[][]Held{nil}, things[1:]}, api.OK}, {Yard{[][]Held{long}, [][]Held{empty}}, api.ErrSize}, {Yard{[][]Held{long[1:]}, [][]Held{empty}}, api.OK},
		{Yard{[][]Held{{{5, 9}}}, [][]Held{empty[1:]}}, api.ErrSize}, {Yard{[][]Held{{{0, 9}}}, [][]Held{nil}}, api.ErrSize}, {Yard{[][]Held{nil}, [][]Held{append(slices.Clone(empty), Held{-1, api.Ref})}}, api.ErrSize},
		{Yard{[][]Held{{{9, api.Ref}, {0, 0}}}, [][]Held{empty}}, api.ErrCap}, {Yard{[][]Held{{{1, api.Ref}}}, [][]Held{{{-1, api.Ref}, {-1, api.CapSend}}}}, api.ErrCap},
		{Yard{[][]Held{{{1, api.Ref}}}, [][]Held{empty}}, api.ErrRange}, {Yard{[][]Held{{{-1, api.Ref}}}, [][]Held{empty}}, api.ErrRange},
		{Yard{[][]Held{nil}, [][]Held{{{1, api.Ref}, {0, api.Ref}}}}, api.ErrRange}, {Yard{[][]Held{nil}, [][]Held{{{0, api.Ref}, {-2, api.Ref}}}}, api.ErrRange}, {Yard{[][]Held{nil}, [][]Held{{{0, api.Ref}, {-1, api.Ref}}}}, api.OK},
	} {
		if e := Check(x.y); e != x.want {
			t.Errorf("yard %d: error %d, want %d", i, e, x.want)
		}
		if x.want == api.OK {
			continue
		}
		if _, e := Do(x.y, Act{Op: 99, Holder: 99}); e != x.want {
			t.Errorf("Do in yard %d: error %d, want %d", i, e, x.want)
		}
		thing, writer, reader, found := Race(x.y)
		if len(Seen(x.y, 0)) > 0 || thing != 0 || writer != 0 || reader != 0 || found {
			t.Errorf("yard %d: Seen %v, Race %v", i, Seen(x.y, 0), found)
		}
	}
	y := yard(t, 1, two()...)
	if len(Seen(y, -1)) > 0 || len(Seen(y, 1)) > 0 || len(Seen(y, 0)) != 2 {
		t.Errorf("Seen of holders that are none, and of one: %v", Seen(y, 0))
	}
}

func TestRace(t *testing.T) {
	field := func(thing, c int) []Held { return []Held{{thing, c}, {-1, api.Ref}} }
	for i, x := range []struct {
		y                     Yard
		thing, writer, reader int
		found                 bool
	}{
		{Yard{[][]Held{{{0, api.Ref}}, {{0, api.Box}}}, [][]Held{field(-1, api.Ref)}}, 0, 0, 1, true},
		{Yard{[][]Held{{{0, api.Box}}, {{0, api.Iso}}}, [][]Held{field(-1, api.Ref)}}, 0, 1, 0, true},
		{Yard{[][]Held{{{0, api.Tag}}, {{0, api.Iso}}}, [][]Held{field(-1, api.Ref)}}, 0, 0, 0, false},
		{Yard{[][]Held{{{0, api.Ref}, {0, api.Val}}, nil}, [][]Held{field(-1, api.Ref)}}, 0, 0, 0, false},
		{Yard{[][]Held{{{0, api.Val}}, {{0, api.Box}}}, [][]Held{field(-1, api.Ref)}}, 0, 0, 0, false},
		{Yard{[][]Held{{{0, api.Val}}, {{1, api.Trn}}}, [][]Held{field(1, api.Ref), field(-1, api.Ref)}}, 1, 1, 0, true},
		{Yard{[][]Held{{{0, api.Iso}}, {{1, api.Ref}}}, [][]Held{field(1, api.Ref), field(-1, api.Ref)}}, 0, 0, 0, false},
		{Yard{[][]Held{{{0, api.Ref}, {1, api.Ref}}, {{1, api.Ref}}, {{1, api.Ref}, {0, api.Val}}}, [][]Held{field(-1, api.Ref), field(-1, api.Ref)}}, 0, 0, 2, true},
		{Yard{[][]Held{nil, {{1, api.Ref}}, {{1, api.Ref}}}, [][]Held{field(-1, api.Ref), field(-1, api.Ref)}}, 1, 1, 2, true},
	} {
		thing, writer, reader, found := Race(x.y)
		if thing != x.thing || writer != x.writer || reader != x.reader || found != x.found {
			t.Errorf("yard %d: %d, %d, %d, %v", i, thing, writer, reader, found)
		}
	}
}

// act returns an act by chance, mostly one that may be done.
func act(pick func(int) int) Act {
	some := func() int { return []int{api.Iso, api.Trn, api.Ref, api.Val, api.Box, api.Tag}[pick(6)] }
	ops := []int{Make, Copy, Copy, Move, Read, Read, Read, Write, Write, Write, Give, Drop}
	a := Act{Op: ops[pick(len(ops))], Holder: pick(2), A: pick(6), B: pick(2), C: some(), D: pick(2)}
	switch a.Op {
	case Make:
		a.A, a.B = some(), some()
	case Copy, Move:
		a.B = some()
	case Write:
		a.C = pick(6)
	}
	return a
}

// TestNoRace: promises 7.6 and 7.7, for acts by chance.
func TestNoRace(t *testing.T) {
	done := map[int]int{}
	for seed := range uint64(2500) {
		pick := sample.Source(seed)
		y := yard(t, 2)
		for range 250 {
			a := act(pick)
			next, e := Do(y, a)
			if e != api.OK {
				if !reflect.DeepEqual(next, Yard{}) {
					t.Fatalf("%v: %v with the error %d", a, next, e)
				}
				continue
			}
			done[a.Op]++
			if Check(next) != api.OK {
				t.Fatalf("%v leads to %v", a, next)
			}
			changesOnly(t, y, next, a)
			y = next
			apart(t, y, a)
		}
	}
	for op := Make; op <= Drop; op++ {
		if done[op] < 500 {
			t.Errorf("the act %d was done %d times", op, done[op])
		}
	}
}

// changesOnly checks that an act changed no more than it names.
func changesOnly(t *testing.T, before, after Yard, a Act) {
	t.Helper()
	for h := range before.Holders {
		if h != a.Holder && (a.Op != Give || h != a.B) && !slices.Equal(before.Holders[h], after.Holders[h]) {
			t.Fatalf("%v changed the holder %d", a, h)
		}
	}
	for i, f := range before.Fields {
		for j := range f {
			written := a.Op == Write && i == before.Holders[a.Holder][a.A].Thing && j == a.B
			if !written && f[j] != after.Fields[i][j] {
				t.Fatalf("%v changed the field %d of %d", a, j, i)
			}
		}
	}
}

// apart checks that all references in a yard may stand beside one another.
func apart(t *testing.T, y Yard, a Act) {
	t.Helper()
	if thing, writer, reader, found := Race(y); found {
		t.Fatalf("behind %v: a race of %d and %d for %d in %v", a, writer, reader, thing, y)
	}
	var seen [][]Held
	for h := range y.Holders {
		seen = append(seen, Seen(y, h))
	}
	for h, l := range y.Holders {
		for i, x := range l {
			for j, other := range l {
				if i != j && x.Thing == other.Thing && !Local(x.Cap, other.Cap) {
					t.Fatalf("behind %v: %v beside %v in %v", a, x, other, y)
				}
			}
			for k := range y.Holders {
				for _, other := range y.Holders[k] {
					if k != h && x.Thing == other.Thing && !Global(x.Cap, other.Cap) {
						t.Fatalf("behind %v: %v of %d beside %v of %d in %v", a, x, h, other, k, y)
					}
				}
				for _, other := range seen[k] {
					if other.Thing != x.Thing || k == h && other == x {
						continue
					}
					if x.Cap == api.Iso && other.Cap != api.Tag || x.Cap == api.Trn && Writes(other.Cap) {
						t.Fatalf("behind %v: %v of %d, and %v is seen by %d in %v", a, x, h, other, k, y)
					}
				}
			}
		}
	}
}
