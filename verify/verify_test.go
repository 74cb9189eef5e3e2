package verify_test

import (
	"reflect"
	"slices"
	"testing"

	"hackamore/api"
	"hackamore/code"
	"hackamore/internal/codes"
	"hackamore/internal/sample"
	. "hackamore/verify"
)

func ins(op, a, b, c int) code.Ins { return code.Ins{Op: op, A: a, B: b, C: c, Raised: -1} }

// direct returns a call of the function 0, with a list, which goes on somewhere with an error.
func direct(a, raised int, list ...int) code.Ins {
	i := code.Ins{Op: code.Direct, A: a, B: len(list), Index: []int{0}, Raised: raised, List: list}
	if raised >= 0 {
		i.C = 1
	}
	return i
}

func words(l ...code.Ins) []uint32 {
	var out []uint32
	for _, i := range l {
		w, e := code.Words(i)
		if e != api.OK {
			panic("words: error " + e.Error())
		}
		out = append(out, w...)
	}
	return out
}

// program returns one of a function with so many parameters, the Anys 0 to 3 and the Nums 4 and 5.
func program(params int, l ...code.Ins) code.Program {
	p := codes.Tables()
	p.Functions = []code.Function{{Name: "f", Params: params, Classes: []int{2, 2, 2, 2, 1, 1}, Words: words(l...)}}
	return p
}

func mapped(p code.Program, l ...code.Map) code.Program {
	p.Functions[0].Maps = l
	return p
}

func back(r int) code.Ins { return ins(code.Return, r, 0, 0) }

// TestExamples: those of the chapter.
func TestExamples(t *testing.T) {
	for i, c := range []struct {
		p     code.Program
		fault code.Fault
		e     api.Errno
	}{
		{program(0, back(0)), code.Fault{}, ErrUnset},
		{program(1, direct(1, -1, 0), back(0)), code.Fault{}, ErrMap}, {mapped(program(1, direct(1, -1, 0), back(0)), code.Map{Live: []int{0}}), code.Fault{}, api.OK},
		{program(1, ins(code.Move, 0, 0, 0)), code.Fault{}, ErrFall},
	} {
		if fault, e := Check(c.p); fault != c.fault || e != c.e {
			t.Errorf("%d: %v, error %d", i, fault, e)
		}
	}
}

// TestCheck: what is taken, and where the first error is.
func TestCheck(t *testing.T) {
	move := func(a, b int) code.Ins { return ins(code.Move, a, b, 0) }
	jump := func(to int) code.Ins { return ins(code.Jump, 0, to, 0) }
	branch := func(to int) code.Ins { return ins(code.Branch, 4, to, 0) }
	number := ins(code.Const, 4, 0, 0)
	live := func(at int, l ...int) code.Map { return code.Map{At: at, Live: l} }
	for i, c := range []struct {
		p  code.Program
		at int
		e  api.Errno
	}{
		{code.Program{}, 0, api.OK}, {program(1, back(0)), 0, api.OK}, {program(0, jump(0)), 0, api.OK}, {program(0, ins(code.Raise, 0, 0, 0)), 0, api.OK}, {program(0, ins(code.Stuck, 0, 0, 0), move(1, 1)), 0, api.OK}, {program(0, jump(2), move(0, 1), jump(0), move(3, 3)), 0, api.OK},
		{program(1, number, branch(0)), 1, ErrFall}, {program(1, move(1, 2), number, branch(0)), 2, ErrFall}, {program(1, number, branch(3), back(0), move(1, 0)), 3, ErrFall}, {program(1, direct(1, 0, 0)), 0, ErrFall}, {program(0, direct(0, 3), direct(0, 0)), 3, ErrFall},
		{program(1, move(1, 2), back(1)), 0, ErrUnset}, {program(1, move(1, 0), back(1)), 0, api.OK}, {program(1, number, branch(3), move(1, 0), back(1)), 3, ErrUnset}, {program(1, number, branch(4), move(1, 0), jump(5), move(1, 0), back(1)), 0, api.OK}, {program(2, ins(code.Same, 4, 0, 1), branch(1), back(1)), 0, api.OK}, {program(1, ins(code.Box, 1, 5, 16), back(1)), 0, ErrUnset}, {program(1, branch(0)), 0, ErrFall}, {program(1, branch(1), back(0)), 0, ErrUnset},
		{program(1, direct(1, 4, 0), back(1), back(0)), 0, ErrMap}, {program(1, direct(1, 5, 0), back(1), back(0)), 0, ErrMap}, {mapped(program(1, direct(1, 5, 0), back(1), back(0)), live(0, 0)), 0, api.OK}, {program(1, direct(1, 3), back(1)), 0, ErrMap}, {mapped(program(1, direct(1, 3), back(1)), live(0, 1)), 0, ErrMap}, {program(2, direct(1, 3), back(1)), 0, ErrMap}, {mapped(program(2, direct(1, 3), back(1)), live(0, 1)), 0, api.OK}, {mapped(program(1, direct(1, 4), back(0), ins(code.Box, 1, 4, 16), back(1)), live(0, 0)), 4, ErrUnset},
		{program(2, direct(1, -1), back(1)), 0, api.OK}, {program(2, direct(0, -1), back(1)), 0, ErrMap}, {mapped(program(2, direct(0, -1), back(1)), live(0, 1)), 0, api.OK}, {mapped(program(2, direct(0, -1), back(1)), live(0, 0, 1)), 0, api.OK}, {mapped(program(2, direct(0, -1), back(1)), live(0, 1, 3)), 0, ErrMap}, {mapped(program(2, direct(0, -1), back(1)), live(0, 1, 4)), 0, ErrMap}, {mapped(program(2, direct(0, -1), back(1)), live(0, 0)), 0, ErrMap}, {mapped(program(2, number, direct(0, -1), back(1)), live(1, 1, 4)), 0, api.OK},
		{program(2, number, direct(0, -1), ins(code.Box, 1, 4, 16), back(1)), 0, api.OK}, {mapped(program(1, back(0), direct(0, -1)), live(1, 3)), 0, api.OK}, {program(2, ins(code.Text, 0, 0, 0), back(1)), 0, ErrMap}, {program(2, ins(code.Make, 0, 0, 0), back(1)), 0, ErrMap}, {program(2, ins(code.Stack, 0, 0, 0), back(1)), 0, ErrMap}, {program(2, code.Ins{Op: code.Get, B: 1, Index: []int{0}, Raised: -1}, back(1)), 0, api.OK},
		{program(2, code.Ins{Op: code.Send, B: 1, Index: []int{0}, Raised: -1, List: []int{0}}, back(1)), 0, ErrMap}, {mapped(program(2, code.Ins{Op: code.Send, B: 1, Index: []int{0}, Raised: -1, List: []int{0}}, back(0)), live(0, 0)), 0, api.OK}, {program(2, code.Ins{Op: code.Spawn, Index: []int{0, 0}, Raised: -1}, back(1)), 0, ErrMap}, {program(2, code.Ins{Op: code.Native, B: 1, Index: []int{0}, Raised: -1, List: []int{1}}, back(1)), 0, ErrMap}, {program(2, code.Ins{Op: code.Call, B: 1, Index: []int{0}, Raised: -1, List: []int{1}}, back(0)), 0, api.OK},
	} {
		if fault, e := Check(c.p); fault != (code.Fault{At: c.at}) || e != c.e {
			t.Errorf("%d: %v, error %d, not %d, %d", i, fault, e, c.at, c.e)
		}
	}
	two := program(1, back(0))
	two.Functions = append(two.Functions, program(1, move(1, 0), back(2)).Functions[0], program(1, move(1, 0)).Functions[0])
	if fault, e := Check(two); fault != (code.Fault{Function: 1, At: 1}) || e != ErrUnset {
		t.Errorf("%v, error %d", fault, e)
	}
	two.Functions[2].Words = nil
	if fault, e := Check(two); fault != (code.Fault{Function: 2}) || e != api.ErrSize {
		t.Errorf("%v, error %d", fault, e)
	}
}

// way is where an instruction can lead, and whether it has written its register then.
type way struct {
	to    int
	wrote bool
}

// oracle is a function, and what the chapter says of it, found by walks for one register at a time.
type oracle struct {
	f    code.Function
	l    []code.Ins
	ways [][]way
}

func oracleOf(f code.Function) *oracle {
	l, _, _ := code.All(f.Words)
	o := &oracle{f: f, l: l}
	index := map[int]int{len(f.Words): len(l)}
	for i, x := range l {
		index[x.At] = i
	}
	for _, x := range l {
		var w []way
		behind := index[x.At+x.Length]
		switch x.Op {
		case code.Return, code.Raise, code.Stuck:
		case code.Jump:
			w = []way{{index[x.B+256*x.C], false}}
		case code.Branch:
			w = []way{{behind, false}, {index[x.B+256*x.C], false}}
		default:
			w = []way{{behind, true}}
			if x.Raised >= 0 {
				w = append(w, way{index[x.Raised], false})
			}
		}
		o.ways = append(o.ways, w)
	}
	return o
}

func (o *oracle) writes(i, r int) bool {
	_, w := code.Uses(o.l[i])
	return w == r
}

func (o *oracle) reads(i, r int) bool {
	l, _ := code.Uses(o.l[i])
	return slices.Contains(l, r)
}

// walk returns the instructions that are reached from one without a way on which the register is written.
func (o *oracle) walk(from, r int) []bool {
	seen := make([]bool, len(o.l)+1)
	work := []int{from}
	for len(work) > 0 {
		i := work[0]
		work = work[1:]
		if seen[i] {
			continue
		}
		seen[i] = true
		if i == len(o.l) {
			continue
		}
		for _, w := range o.ways[i] {
			if !w.wrote || !o.writes(i, r) {
				work = append(work, w.to)
			}
		}
	}
	return seen
}

func (o *oracle) reached() []bool { return o.walk(0, -5) }

// unset reports of each instruction whether a register may have no value.
func (o *oracle) unset(r int) []bool {
	if r < o.f.Params {
		return make([]bool, len(o.l)+1)
	}
	return o.walk(0, r)
}

// needed reports whether a register is needed ahead of an instruction.
func (o *oracle) needed(i, r int) bool {
	for k, isOn := range o.walk(i, r) {
		if isOn && k < len(o.l) && o.reads(k, r) {
			return true
		}
	}
	return false
}

// behind returns the Anys that are needed behind an instruction, but for what it writes.
func (o *oracle) behind(i int) []int {
	var l []int
	for r, class := range o.f.Classes {
		isNeeded := slices.ContainsFunc(o.ways[i], func(w way) bool {
			return w.to < len(o.l) && o.needed(w.to, r) && !(w.wrote && o.writes(i, r))
		})
		if isNeeded && class == code.Any {
			l = append(l, r)
		}
	}
	return l
}

func (o *oracle) mapAt(at int) []int {
	for _, m := range o.f.Maps {
		if m.At == at {
			return m.Live
		}
	}
	return nil
}

// check returns the first error that the chapter tells of the function, with or without those of maps.
func (o *oracle) check(withMaps bool) (int, api.Errno) {
	reached := o.reached()
	for i, x := range o.l {
		if reached[i] && slices.ContainsFunc(o.ways[i], func(w way) bool { return w.to == len(o.l) }) {
			return x.At, ErrFall
		}
	}
	for i, x := range o.l {
		if !reached[i] {
			continue
		}
		for r := range o.f.Classes {
			if o.reads(i, r) && o.unset(r)[i] {
				return x.At, ErrUnset
			}
		}
		if !withMaps || !code.Safe(x) {
			continue
		}
		live := o.mapAt(x.At)
		if slices.ContainsFunc(live, func(r int) bool { return o.unset(r)[i] }) || slices.ContainsFunc(o.behind(i), func(r int) bool { return !slices.Contains(live, r) }) {
			return x.At, ErrMap
		}
	}
	return 0, api.OK
}

func chance(seed int) code.Program {
	m := &codes.Maker{Pick: sample.Source(uint64(seed)), Tidy: seed%3 > 0}
	return m.Program(3, 4+seed%20)
}

// TestChance checks all functions with programs by chance.
func TestChance(t *testing.T) {
	errors := map[api.Errno]int{}
	for seed := range 900 {
		p := chance(seed)
		if seed%2 == 0 {
			if q, e := Maps(p); e == api.OK {
				p = q
			}
		}
		want, e2 := code.Fault{}, api.OK
		var os []*oracle
		for n, f := range p.Functions {
			o := oracleOf(f)
			os = append(os, o)
			if at, e := o.check(true); e2 == api.OK && e != api.OK {
				want, e2 = code.Fault{Function: n, At: at}, e
			}
		}
		if fault, e := Check(p); fault != want || e != e2 {
			t.Fatalf("seed %d: %v, error %d, not %v, %d", seed, fault, e, want, e2)
		}
		errors[e2]++
		for n, o := range os {
			compareStates(t, seed, p, n, o)
		}
	}
	if errors[api.OK] < 100 || errors[ErrFall] < 20 || errors[ErrUnset] < 30 || errors[ErrMap] < 30 {
		t.Errorf("%v", errors)
	}
}

// compareStates compares States and Needed of a function with what the oracle says.
func compareStates(t *testing.T, seed int, p code.Program, n int, o *oracle) {
	states, e := States(p, n)
	needed, e2 := Needed(p, n)
	if _, fall := o.check(true); fall == ErrFall {
		if e != ErrFall || e2 != ErrFall || states != nil || needed != nil {
			t.Errorf("seed %d: errors %d, %d", seed, e, e2)
		}
		return
	}
	if e != api.OK || e2 != api.OK || len(states) != len(o.l) || len(needed) != len(o.l) {
		t.Fatalf("seed %d: errors %d, %d", seed, e, e2)
	}
	reached := o.reached()
	for i, x := range o.l {
		s := State{At: x.At, Reached: reached[i]}
		var want []int
		for r := range o.f.Classes {
			if reached[i] {
				s.Set = append(s.Set, !o.unset(r)[i])
			}
			if reached[i] && o.needed(i, r) {
				want = append(want, r)
			}
		}
		if !reflect.DeepEqual(s, states[i]) || !slices.Equal(want, needed[i]) {
			t.Errorf("seed %d: %v, not %v; needed %v, not %v", seed, states[i], s, needed[i], want)
		}
		if _, e := o.check(true); i == 0 && e == api.OK && slices.ContainsFunc(needed[0], func(r int) bool { return r >= o.f.Params }) { // P26.4
			t.Errorf("seed %d: at the beginning %v are needed", seed, needed[0])
		}
	}
}

// TestErrors: of States and Needed.
func TestErrors(t *testing.T) {
	p := program(1, ins(code.Move, 0, 0, 0))
	p.Functions = append(p.Functions, program(0, back(0)).Functions[0])
	bad := program(1)
	for i, c := range []struct {
		p code.Program
		n int
		e api.Errno
	}{{p, 0, ErrFall}, {p, 1, api.OK}, {p, 2, api.ErrRange}, {p, -1, api.ErrRange}, {p, 1 << 62, api.ErrRange}, {bad, 0, api.ErrSize}, {bad, 7, api.ErrSize}, {code.Program{}, 0, api.ErrRange}} {
		s, e := States(c.p, c.n)
		l, e2 := Needed(c.p, c.n)
		if e != c.e || e2 != c.e || (len(s) > 0) != (e == api.OK) || (len(l) > 0) != (e == api.OK) {
			t.Errorf("%d: errors %d, %d, not %d", i, e, e2, c.e)
		}
	}
	if l, _ := Needed(p, 1); !reflect.DeepEqual(l, [][]int{{0}}) {
		t.Errorf("%v", l)
	}
}

// TestMaps checks P26.3.
func TestMaps(t *testing.T) {
	taken, without := 0, 0
	for seed := range 700 {
		p := chance(seed)
		ahead := oracles(p)
		q, e := Maps(p)
		if want := errorWithoutMaps(p); e != want || e != api.OK && !code.Equal(q, code.Program{}) {
			t.Fatalf("seed %d: error %d, not %d", seed, e, want)
		}
		if !reflect.DeepEqual(oracles(p), ahead) {
			t.Fatalf("seed %d: the program was changed", seed)
		}
		if e != api.OK {
			continue
		}
		taken++
		if fault, e := Check(q); e != api.OK {
			t.Errorf("seed %d: %v, error %d", seed, fault, e)
		}
		if again, e := Maps(q); e != api.OK || !code.Equal(again, q) {
			t.Errorf("seed %d: other maps, error %d", seed, e)
		}
		for n, f := range q.Functions {
			o := oracleOf(f)
			var want []code.Map
			reached := o.reached()
			for i, x := range o.l {
				if l := o.behind(i); reached[i] && code.Safe(x) && len(l) > 0 {
					want = append(want, code.Map{At: x.At, Live: l})
				}
			}
			if !reflect.DeepEqual(append([]code.Map{}, f.Maps...), append([]code.Map{}, want...)) {
				t.Errorf("seed %d: %v, not %v", seed, f.Maps, want)
			}
			for i, m := range f.Maps {
				for k := range m.Live {
					less := q
					less.Functions = slices.Clone(q.Functions)
					less.Functions[n].Maps = slices.Clone(f.Maps)
					less.Functions[n].Maps[i].Live = slices.Delete(slices.Clone(m.Live), k, k+1)
					without++
					if fault, e := Check(less); e != ErrMap || fault != (code.Fault{Function: n, At: m.At}) {
						t.Errorf("seed %d: without a register: %v, error %d", seed, fault, e)
					}
				}
			}
		}
	}
	if taken < 150 || without < 150 {
		t.Errorf("%d taken, %d registers", taken, without)
	}
	if p, e := Maps(program(1)); e != api.ErrSize || !code.Equal(p, code.Program{}) {
		t.Errorf("error %d", e)
	}
}

func oracles(p code.Program) []code.Function {
	var l []code.Function
	for _, f := range p.Functions {
		f.Maps = slices.Clone(f.Maps)
		l = append(l, f)
	}
	return l
}

// errorWithoutMaps returns the first error of a program but that of maps.
func errorWithoutMaps(p code.Program) api.Errno {
	for _, f := range p.Functions {
		if _, e := oracleOf(f).check(false); e != api.OK {
			return e
		}
	}
	return api.OK
}

// TestSound checks P26.2: programs that are taken are played, with and without loss of what no map has.
func TestSound(t *testing.T) {
	steps := 0
	for seed := range 1500 {
		p, e := Maps(chance(seed))
		if e != api.OK {
			continue
		}
		pick := sample.Source(uint64(seed) + 7)
		for _, f := range p.Functions {
			for run := range 6 {
				steps += oracleOf(f).play(t, seed, pick, run%2 == 0)
			}
		}
	}
	if steps < 10000 {
		t.Errorf("%d steps", steps)
	}
}

// play goes through a function by chance, and returns how many steps it took.
func (o *oracle) play(t *testing.T, seed int, pick func(int) int, loses bool) int {
	has := make([]bool, len(o.f.Classes))
	for r := range o.f.Params {
		has[r] = true
	}
	at := 0
	for n := range 60 {
		if at >= len(o.l) {
			t.Fatalf("seed %d: the function runs over its end", seed)
		}
		x := o.l[at]
		reads, writes := code.Uses(x)
		for _, r := range reads {
			if !has[r] {
				t.Fatalf("seed %d: %v reads %d", seed, x, r)
			}
		}
		for r, class := range o.f.Classes {
			if loses && code.Safe(x) && class == code.Any && !slices.Contains(o.mapAt(x.At), r) {
				has[r] = false
			}
		}
		if len(o.ways[at]) == 0 {
			return n
		}
		w := o.ways[at][pick(len(o.ways[at]))]
		if w.wrote && writes >= 0 {
			has[writes] = true
		}
		at = w.to
	}
	return 60
}

// TestGarbage: programs of any form.
func TestGarbage(t *testing.T) {
	for seed := range 2000 {
		m := &codes.Maker{Pick: sample.Source(uint64(seed)), Tidy: seed%2 == 0}
		p := m.Garbage()
		want, e2 := code.Check(p)
		fault, e := Check(p)
		q, e3 := Maps(p)
		_, e4 := States(p, 0)
		if e2 != api.OK && (fault != want || e != e2 || e3 != e2 || e4 != e2 || !code.Equal(q, code.Program{})) {
			t.Errorf("seed %d: %v, errors %d, %d, %d, not %d", seed, fault, e, e3, e4, e2)
		}
	}
}

// TestLarge: a function with as many words as there may be, in which what is needed goes back from the end to the beginning.
func TestLarge(t *testing.T) {
	l := []code.Ins{ins(code.Const, 4, 0, 0), ins(code.Jump, 0, (code.MaxWords-2)%256, (code.MaxWords-2)/256)}
	for at := 2; at < code.MaxWords-2; at += 2 { // each pair goes back to the one ahead
		to := max(at-2, 2)
		l = append(l, ins(code.Branch, 4, to%256, to/256))
		if at+2 < code.MaxWords-2 {
			l = append(l, ins(code.Branch, 4, to%256, to/256))
			continue
		}
		l = append(l, back(0))
	}
	l = append(l, ins(code.Branch, 4, (code.MaxWords-4)%256, (code.MaxWords-4)/256), back(0))
	p := program(1, l...)
	if len(p.Functions[0].Words) != code.MaxWords {
		t.Fatalf("%d words", len(p.Functions[0].Words))
	}
	if fault, e := Check(p); e != api.OK {
		t.Errorf("%v, error %d", fault, e)
	}
	if l, e := Needed(p, 0); e != api.OK || !slices.Equal(l[0], []int{0}) {
		t.Errorf("error %d", e)
	}
}
