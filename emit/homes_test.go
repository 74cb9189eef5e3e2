package emit_test

import (
	"slices"
	"testing"

	"hackamore/api"
	"hackamore/code"
	. "hackamore/emit"
	"hackamore/internal/sample"
	"hackamore/ssa"
)

// pairs are those of values that meet.
type pairs map[[2]int]bool

func (l pairs) put(v int, others []int) {
	for _, w := range others {
		if v != w {
			l[[2]int{v, w}], l[[2]int{w, v}] = true, true
		}
	}
}

// phisOf returns the phis of a block, and their arguments for the way from another one that is its target with an index.
func phisOf(f ssa.Func, b, from, index int) (results, args []int) {
	way := 0
	for p, x := range f.Blocks {
		for i, to := range x.End.To {
			if to == b && (p < from || p == from && i < index) {
				way++
			}
		}
	}
	for _, x := range f.Blocks[b].Ins {
		if x.Op == ssa.Phi {
			results = append(results, x.Result)
			if from >= 0 {
				args = append(args, x.Args[way])
			}
		}
	}
	return results, args
}

// neededBehind returns what is needed behind an instruction, by the words of the chapter.
func neededBehind(f ssa.Func, live [][]int, b, at int) []int {
	x := f.Blocks[b]
	var l []int
	for _, y := range x.Ins[at+1:] {
		if y.Op != ssa.Phi {
			l = append(l, y.Args...)
		}
	}
	l = slices.Concat(l, x.End.Args, x.End.Call.Args)
	for i, to := range x.End.To {
		_, args := phisOf(f, to, b, i)
		l = slices.Concat(l, args, live[to])
	}
	var between []int
	for _, y := range x.Ins[at+1:] {
		between = append(between, y.Result)
	}
	if x.End.Kind == ssa.Try {
		between = append(between, x.End.Call.Result)
	}
	return slices.DeleteFunc(l, func(v int) bool { return slices.Contains(between, v) })
}

// meet returns the pairs of values that meet.
func meet(f ssa.Func) pairs {
	l := pairs{}
	live, _ := ssa.Live(f)
	var params []int
	for v := range f.Params {
		params = append(params, v)
	}
	for _, v := range params {
		l.put(v, params)
		l.put(v, live[0])
	}
	for b, x := range f.Blocks {
		results, _ := phisOf(f, b, -1, 0)
		for _, v := range results {
			l.put(v, results)
			l.put(v, live[b])
		}
		for i, y := range x.Ins {
			if y.Op != ssa.Phi {
				l.put(y.Result, neededBehind(f, live, b, i))
			}
		}
		if x.End.Kind == ssa.Try {
			results, args := phisOf(f, x.End.To[0], b, 0)
			l.put(x.End.Call.Result, slices.Concat(live[x.End.To[0]], results, args))
		}
	}
	return l
}

// made returns which values are parameters, or made.
func made(f ssa.Func, n int) []bool {
	l := make([]bool, n)
	for v := range f.Params {
		l[v] = true
	}
	for _, b := range f.Blocks {
		for _, x := range b.Ins {
			l[x.Result] = true
		}
		if b.End.Kind == ssa.Try {
			l[b.End.Call.Result] = true
		}
	}
	return l
}

// errorOf returns the error of homes, by the words of the chapter.
func errorOf(f ssa.Func, shapes []Shape, h Homes) api.Errno {
	if len(h.Values) != len(shapes) || len(h.Classes) > 250 {
		return api.ErrSize
	}
	for _, c := range h.Classes {
		if c != code.Num && c != code.Any {
			return api.ErrArg
		}
	}
	for v, isMade := range made(f, len(shapes)) {
		var want []int
		if isMade {
			want = classes(shapes[v])
		}
		if len(want) != len(h.Values[v]) || v < len(f.Params) && h.Values[v][0] != v {
			return ErrHome
		}
		for i, r := range h.Values[v] {
			if r < 0 || r >= len(h.Classes) || h.Classes[r] != want[i] {
				return ErrHome
			}
			for _, other := range h.Values[v][:i] {
				if r == other {
					return ErrHome
				}
			}
		}
	}
	for p := range meet(f) {
		for _, r := range h.Values[p[0]] {
			if slices.Contains(h.Values[p[1]], r) {
				return ErrShare
			}
		}
	}
	return api.OK
}

// copied returns homes that share nothing with others.
func copied(h Homes) Homes {
	h.Values, h.Classes = slices.Clone(h.Values), slices.Clone(h.Classes)
	for i := range h.Values {
		h.Values[i] = slices.Clone(h.Values[i])
	}
	return h
}

// moved returns homes of which some were changed.
func moved(h Homes, pick func(int) int) Homes {
	h = copied(h)
	strange := func() int { return []int{-1, 0, 1, 2, 3, 4, 5, 250, 1 << 62, -1 << 63}[pick(10)] }
	for range 1 + pick(2) {
		if len(h.Values) == 0 {
			break
		}
		v := pick(len(h.Values))
		switch pick(12) {
		case 0:
			h.Classes = append(h.Classes, strange())
		case 1:
			h.Classes = slices.Repeat([]int{2}, 249+pick(3))
		case 2:
			h.Values = h.Values[1:]
		case 3:
			h.Values[v] = append(h.Values[v], strange())
		case 4:
			h.Values[v] = nil
		case 5:
			if len(h.Values[v]) > 0 {
				h.Values[v][pick(len(h.Values[v]))] = strange()
			}
		case 6:
			if len(h.Classes) > 0 {
				h.Classes[pick(len(h.Classes))] = 1 + pick(3)
			}
		default: // mostly a home of another value
			h.Values[v] = slices.Clone(h.Values[pick(len(h.Values))])
		}
	}
	return h
}

// TestHomes checks P25.2.
func TestHomes(t *testing.T) {
	errors := map[api.Errno]int{}
	shared, registers, values := 0, 0, 0
	for seed := range 700 {
		p := chance(seed)
		pick := sample.Source(uint64(seed))
		for _, f := range p.Funcs {
			shapes, e := Shapes(p, f)
			h, e2 := Assign(p, f)
			if e != e2 {
				t.Fatalf("seed %d: errors %d, %d", seed, e, e2)
			}
			if e != api.OK {
				continue
			}
			if e := CheckHomes(p, f, h); e != api.OK || errorOf(f, shapes, h) != api.OK {
				t.Fatalf("seed %d: error %d: %v", seed, e, h)
			}
			values, registers = values+len(shapes), registers+len(h.Classes)
			for range 6 {
				g := moved(h, pick)
				want := errorOf(f, shapes, g)
				if e := CheckHomes(p, f, g); e != want {
					t.Fatalf("seed %d: error %d, not %d", seed, e, want)
				}
				errors[want]++
			}
			for pair := range meet(f) { // two that meet in one register
				a, b := pair[0], pair[1]
				if len(h.Values[a]) != 1 || len(h.Values[b]) != 1 || b < len(f.Params) || h.Classes[h.Values[a][0]] != h.Classes[h.Values[b][0]] {
					continue
				}
				g := copied(h)
				g.Values[b] = g.Values[a]
				if e := CheckHomes(p, f, g); e != ErrShare {
					t.Fatalf("seed %d: the values %d and %d share a register: error %d", seed, a, b, e)
				}
				shared++
			}
		}
	}
	if errors[api.OK] < 500 || errors[ErrShare] < 200 || errors[ErrHome] < 500 || errors[api.ErrSize] < 100 || errors[api.ErrArg] < 50 || shared < 3000 {
		t.Errorf("%v, %d shared", errors, shared)
	}
	if registers*2 > values {
		t.Errorf("%d values in %d registers", values, registers)
	}
}

// TestMeetings: each rule by which values meet, with homes that break it alone.
func TestMeetings(t *testing.T) {
	const any, num = code.Any, code.Num
	cond := constant(2, truth(true))
	for i, c := range []struct {
		f    ssa.Func
		good [][]int // classes of the registers are Anys, but for the last one
		bad  [][]int
		e    api.Errno
	}{
		{fn("f", 2, block(back(0))), [][]int{{0}, {1}}, [][]int{{0}, {0}}, ErrHome},
		// What an instruction makes, and what is needed behind it: by an instruction, the end, a phi, a block behind.
		{fn("f", 1, block(back(2), ins(ssa.Text, 1, "x"), ins(ssa.Get, 2, "f", 0))), [][]int{{0}, {1}, {1}}, [][]int{{0}, {0}, {1}}, ErrShare},
		{fn("f", 1, block(back(0), ins(ssa.Text, 1, "x"))), [][]int{{0}, {1}}, [][]int{{0}, {0}}, ErrShare},
		{fn("f", 1, block(back(1), ins(ssa.Text, 1, "x"))), [][]int{{0}, {0}}, [][]int{{0}, {3}}, ErrHome},
		{fn("f", 1, block(jump(1), ins(ssa.Text, 1, "x")), block(back(2), phi(2, 0))), [][]int{{0}, {1}, {0}}, [][]int{{0}, {0}, {0}}, ErrShare},
		{fn("f", 1, block(jump(1), ins(ssa.Text, 1, "x")), block(back(0))), [][]int{{0}, {1}}, [][]int{{0}, {0}}, ErrShare},
		{fn("f", 1, block(try(ins(ssa.Call, 2, "m", 0), 1, 2), ins(ssa.Text, 1, "x")), block(back(2)), block(back(1))), [][]int{{0}, {1}, {0}}, [][]int{{0}, {0}, {0}}, ErrShare},
		// A try's value may be in a register that is needed where the call ended with an error.
		{fn("f", 1, block(try(ins(ssa.Call, 1, "m", 0), 1, 2)), block(back(1)), block(back(0))), [][]int{{0}, {0}}, [][]int{{0}, {3}}, ErrHome},
		{fn("f", 1, block(try(ins(ssa.Call, 1, "m", 0), 1, 2)), block(back(0)), block(back(0))), [][]int{{0}, {1}}, [][]int{{0}, {0}}, ErrShare},
		{fn("f", 1, block(try(ins(ssa.Call, 1, "m", 0), 1, 2)), block(back(2), phi(2, 0)), block(back(0))), [][]int{{0}, {1}, {0}}, [][]int{{0}, {0}, {1}}, ErrShare},
		{fn("f", 1, block(try(ins(ssa.Call, 1, "m", 0), 1, 2)), block(back(2), phi(2, 0)), block(back(0))), [][]int{{0}, {1}, {2}}, [][]int{{0}, {1}, {1}}, ErrShare},
		// Phis of one block, and a phi and what is needed there; an argument may be in the register of another phi.
		{fn("f", 2, block(jump(1)), block(back(0), phi(2, 0), phi(3, 1))), [][]int{{0}, {1}, {1}, {2}}, [][]int{{0}, {1}, {1}, {1}}, ErrShare},
		{fn("f", 2, block(jump(1)), block(back(4), phi(2, 0), phi(3, 1), tuple(4, 2, 3))), [][]int{{0}, {1}, {1}, {0}, {2, 1}}, [][]int{{0}, {1}, {1}, {0}, {2, 2}}, ErrHome},
		{fn("f", 2, block(jump(1)), block(back(0), phi(2, 1))), [][]int{{0}, {1}, {1}}, [][]int{{0}, {1}, {0}}, ErrShare},
		{fn("f", 2, block(branch(2, 1, 1), cond), block(back(0), phi(3, 1, 0))), [][]int{{0}, {1}, {3}, {2}}, [][]int{{0}, {1}, {3}, {0}}, ErrShare},
	} {
		h := Homes{Values: c.good, Classes: []int{any, any, any, num}}
		if e := CheckHomes(ssa.Program{}, c.f, h); e != api.OK {
			t.Errorf("%d: error %d", i, e)
		}
		h.Values = c.bad
		if e := CheckHomes(ssa.Program{}, c.f, h); e != c.e {
			t.Errorf("%d: error %d, not %d", i, e, c.e)
		}
	}
}

// many returns a function with so many values that are all needed at once, and with one more.
func many(n int) ssa.Func {
	f := fn("f", 1, block(back(0)), block(back(0)))
	for v := 1; v < n; v++ {
		f.Blocks[0].Ins = append(f.Blocks[0].Ins, ins(ssa.Text, v, "x"))
	}
	f.Blocks[0].End = jump(1)
	for v := range n {
		f.Blocks[1].Ins = append(f.Blocks[1].Ins, ins(ssa.Get, n+v, "f", v))
	}
	return f
}

// TestRegisters: as many registers as there are, and not enough.
func TestRegisters(t *testing.T) {
	for _, n := range []int{1, 100, 200, 249, 250, 251, 300, 1900} {
		f := many(n)
		h, e := Assign(ssa.Program{}, f)
		c, e2 := Emit(program(f))
		if n <= 249 && (e != api.OK || e2 != api.OK || len(h.Classes) != n+1 || CheckHomes(ssa.Program{}, f, h) != api.OK) {
			t.Errorf("%d values: errors %d, %d, %d registers", n, e, e2, len(h.Classes))
		}
		if n > 249 && (e != api.ErrLarge || e2 != api.ErrLarge || h.Values != nil || h.Classes != nil || !code.Equal(c, code.Program{})) {
			t.Errorf("%d values: errors %d, %d", n, e, e2)
		}
	}
	long := fn("f", 0, block(back(3999), ins(ssa.Text, 0, "x")))
	for v := 1; v < 4000; v++ { // many values, one after the other
		long.Blocks[0].Ins = append(long.Blocks[0].Ins, ins(ssa.Get, v, "f", v-1))
	}
	if h, e := Assign(ssa.Program{}, long); e != api.OK || len(h.Classes) != 1 {
		t.Errorf("%d registers, error %d", len(h.Classes), e)
	}
	far := fn("f", 0, block(back(100000), ins(ssa.Text, 100000, "x")))
	if h, e := Assign(ssa.Program{}, far); e != api.OK || len(h.Values) != 100001 || CheckHomes(ssa.Program{}, far, h) != api.OK {
		t.Errorf("error %d", e)
	}
}
