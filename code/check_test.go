package code_test

import (
	"reflect"
	"slices"
	"strings"
	"testing"

	"hackamore/api"
	. "hackamore/code"
	"hackamore/colour"
	"hackamore/internal/codes"
	"hackamore/internal/sample"
)

// functions returns a program with functions that are changed, one by one.
func functions(change ...func(f *Function)) Program {
	p := program(giveBack)
	f := p.Functions[0]
	p.Functions = nil
	for _, c := range change {
		g := f
		c(&g)
		p.Functions = append(p.Functions, g)
	}
	return p
}

func stays(*Function) {}

// with returns the program whose tables are changed.
func with(change func(p *Program)) Program {
	p := program(giveBack)
	change(&p)
	return p
}

// TestCheckTables: each error of tables, and their order.
func TestCheckTables(t *testing.T) {
	long := strings.Repeat("x", 20001)
	bad := func(f *Function) { f.Words = nil }
	wide := api.Type{Kind: api.TypeUnion, Args: make([]api.Type, 301)}
	for i, c := range []struct {
		p Program
		e api.Errno
	}{
		{Program{}, api.OK}, {with(func(p *Program) {}), api.OK},
		{with(func(p *Program) { p.Functions = slices.Repeat(p.Functions, 2000) }), api.OK}, {with(func(p *Program) { p.Functions = slices.Repeat(p.Functions, 2001) }), api.ErrSize},
		{with(func(p *Program) { p.Texts = make([]string, 5000) }), api.OK}, {with(func(p *Program) { p.Texts = make([]string, 5001) }), api.ErrSize}, {with(func(p *Program) { p.Types = make([]api.Type, 5001) }), api.ErrSize}, {with(func(p *Program) { p.Types = slices.Repeat(p.Types[:1], 5000) }), api.OK}, {with(func(p *Program) { p.Values = make([]api.Value, 5000) }), api.OK}, {with(func(p *Program) { p.Values = make([]api.Value, 5001) }), api.ErrSize},
		{with(func(p *Program) { p.Entities = make([]string, 5000) }), api.OK}, {with(func(p *Program) { p.Entities = make([]string, 5001) }), api.ErrSize}, {with(func(p *Program) { p.Selectors = make([]string, 5000) }), api.OK}, {with(func(p *Program) { p.Selectors = make([]string, 5001) }), api.ErrSize}, {with(func(p *Program) { p.Offsets = make([]int, 5000) }), api.OK}, {with(func(p *Program) { p.Offsets = make([]int, 5001) }), api.ErrSize}, {with(func(p *Program) { p.Colours = make([]int, 5000) }), api.OK}, {with(func(p *Program) { p.Colours = make([]int, 5001) }), api.ErrSize},
		{with(func(p *Program) { p.Vector = make([]colour.Slot, 20000) }), api.OK}, {with(func(p *Program) { p.Vector = make([]colour.Slot, 20001) }), api.ErrSize}, {with(func(p *Program) { p.Texts[0], p.Vector = long, make([]colour.Slot, 20001) }), api.ErrSize},
		{with(func(p *Program) { p.Texts[0] = long[1:] }), api.OK}, {with(func(p *Program) { p.Texts[0] = long }), api.ErrForm}, {with(func(p *Program) { p.Entities[1] = long[1:] }), api.OK}, {with(func(p *Program) { p.Entities[1] = long }), api.ErrForm}, {with(func(p *Program) { p.Selectors[1] = long[1:] }), api.OK}, {with(func(p *Program) { p.Selectors[1] = long }), api.ErrForm}, {with(func(p *Program) { p.Texts[0] = "\xff\x00" }), api.OK},
		{with(func(p *Program) { p.Values[1].Kids = make([]api.Value, 1) }), api.ErrForm}, {with(func(p *Program) { p.Values[1].Name = long[:300] }), api.OK}, {with(func(p *Program) { p.Values[1].Name = long[:301] }), api.ErrForm}, {with(func(p *Program) { p.Values[1].Kind = -5 }), api.OK},
		{with(func(p *Program) { p.Types[1].Cap = 9 }), api.ErrForm}, {with(func(p *Program) { p.Types[1] = wide }), api.ErrSize}, {with(func(p *Program) { p.Types[1], p.Types[2] = api.Type{}, wide }), api.ErrForm}, {with(func(p *Program) { p.Types[1], p.Selectors[0] = wide, long }), api.ErrForm}, {with(func(p *Program) { p.Types[1] = wide; p.Functions[0].Words = nil }), api.ErrSize},
		{with(func(p *Program) { p.Offsets[0], p.Colours[0], p.Vector[0].Method = -1<<63, 1<<62, 77 }), api.OK}, {functions(bad, bad), api.ErrSize},
	} {
		fault, e := Check(c.p)
		want := Fault{-1, 0}
		switch {
		case e == api.OK:
			want = Fault{}
		case len(c.p.Functions) == 2:
			want = Fault{0, 0}
		}
		if e != c.e || fault != want {
			t.Errorf("%d: %v, error %d, not %d", i, fault, e, c.e)
		}
	}
}

// TestCheckFunctions: each error of functions, and their order.
func TestCheckFunctions(t *testing.T) {
	classes := func(n int) []int { return append([]int{Any}, slices.Repeat([]int{Num}, n-1)...) }
	for i, c := range []struct {
		p     Program
		e     api.Errno
		fault Fault
	}{
		{functions(stays, func(f *Function) { f.Classes = classes(250) }), api.OK, Fault{}}, {functions(stays, func(f *Function) { f.Classes = classes(251) }), api.ErrSize, Fault{1, 0}}, {functions(func(f *Function) { f.Words = nil }), api.ErrSize, Fault{}}, {functions(func(f *Function) { f.Words = slices.Repeat(f.Words, 20000) }), api.OK, Fault{}}, {functions(func(f *Function) { f.Words = slices.Repeat(f.Words, 20001) }), api.ErrSize, Fault{}},
		{functions(func(f *Function) { f.Name = strings.Repeat("x", 20000) }), api.OK, Fault{}}, {functions(func(f *Function) { f.Name = strings.Repeat("x", 20001) }), api.ErrSize, Fault{}}, {functions(func(f *Function) { f.Maps = make([]Map, 2) }), api.ErrSize, Fault{}},
		{functions(func(f *Function) { f.Classes = []int{2, 0} }), api.ErrForm, Fault{}}, {functions(func(f *Function) { f.Classes = []int{2, 3} }), api.ErrForm, Fault{}}, {functions(func(f *Function) { f.Params = -1 }), api.ErrForm, Fault{}}, {functions(func(f *Function) { f.Params = 5 }), api.ErrForm, Fault{}}, {functions(func(f *Function) { f.Params = 3 }), api.ErrForm, Fault{}}, {functions(func(f *Function) { f.Params = 2 }), api.OK, Fault{}}, {functions(func(f *Function) { f.Params = 0 }), api.OK, Fault{}}, {functions(func(f *Function) { f.Params, f.Words = -1, nil }), api.ErrSize, Fault{}},
		{functions(func(f *Function) { f.Words = []uint32{0x14, 0x14, 0x18} }), ErrWord, Fault{0, 2}}, {functions(func(f *Function) { f.Words = []uint32{0x0914, 0x18} }), ErrWord, Fault{0, 1}}, {functions(func(f *Function) { f.Words, f.Params = []uint32{0x18}, 9 }), api.ErrForm, Fault{}}, {functions(func(f *Function) { f.Words = []uint32{0x0914} }, func(f *Function) { f.Words = nil }), ErrIndex, Fault{}}, {functions(stays, stays, func(f *Function) { f.Words = []uint32{0x14, 0x0914, 0x0914} }), ErrIndex, Fault{2, 1}},
	} {
		fault, e := Check(c.p)
		if e != c.e || fault != c.fault {
			t.Errorf("%d: %v, error %d, not %v, %d", i, fault, e, c.fault, c.e)
		}
	}
}

// TestCheckInstructions: what each operation asks for. The registers 0 and 1 are Anys, 2 and 3 Nums; of the tables that of the texts is the longest one.
func TestCheckInstructions(t *testing.T) {
	p := program(giveBack)
	sizes := map[string]int{"value": len(p.Values), "text": len(p.Texts), "type": len(p.Types), "entity": len(p.Entities), "selector": len(p.Selectors), "function": len(p.Functions)}
	for op, x := range layouts() {
		i := sound(op, 2)
		put := func(at *int, p string) {
			*at = map[string]int{"n": 2, "k": 10}[p]
		}
		put(&i.A, x.a)
		if x.d == "" && x.b != "+" {
			put(&i.B, x.b)
		}
		if x.c != "d" {
			put(&i.C, x.c)
		}
		for k, name := range x.index {
			i.Index[k] = sizes[name] - 1
		}
		for k := range i.List {
			i.List[k] = k % 2
		}
		switch x.d {
		case "":
		case "target":
			i.B, i.C = 0, 0
		default:
			i.B, i.C = sizes[x.d]-1, 0
		}
		wants(t, i, api.OK)
		each := func(what string, n int, isRight bool) {
			y := i
			y.List, y.Index = slices.Clone(i.List), slices.Clone(i.Index)
			switch what {
			case "A":
				y.A = n
			case "B":
				y.B = n
			case "C":
				y.C = n
			case "list":
				y.List[len(y.List)-1] = n
			default:
				y.Index[int(what[0]-'0')] = n
			}
			want := ErrIndex
			if isRight {
				want = api.OK
			}
			wants(t, y, want)
		}
		for k, part := range []string{x.a, x.b, x.c} {
			name := string("ABC"[k])
			switch part {
			case "n", "a":
				for r := range 6 {
					each(name, r, r < 4 && (r >= 2) == (part == "n"))
				}
			case "k":
				for n := range 40 {
					each(name, n, n == 1 || n >= 10 && n <= 30)
				}
			case "#":
				each(name, 255, true)
			}
		}
		for k, name := range x.index {
			each(string(rune('0'+k)), sizes[name], false)
			each(string(rune('0'+k)), 0, true)
		}
		if len(i.List) > 0 {
			for r := range 6 {
				each("list", r, r < 2)
			}
		}
		if x.d != "" && x.d != "target" {
			each("B", sizes[x.d], false)
			each("C", 1, false)
		}
	}
	for _, c := range []struct {
		i Ins
		e api.Errno
	}{
		{ins(Move, 0, 1, 0), api.OK}, {ins(Move, 2, 3, 0), api.OK}, {ins(Move, 0, 2, 0), ErrIndex}, {ins(Move, 2, 0, 0), ErrIndex}, {ins(Move, 4, 0, 0), ErrIndex}, {ins(Move, 0, 4, 0), ErrIndex},
		{ins(Const, 2, 0, 0), api.OK}, {ins(Const, 2, 1, 0), api.OK}, {ins(Const, 2, 3, 0), ErrIndex}, {ins(Const, 2, 4, 0), ErrIndex}, {ins(Const, 1, 3, 0), api.OK}, {ins(Const, 1, 4, 0), api.OK}, {ins(Const, 4, 0, 0), ErrIndex},
		{ins(Jump, 0, 1, 0), api.OK}, {ins(Jump, 0, 0, 0), api.OK}, {ins(Jump, 0, 2, 0), ErrIndex}, {ins(Jump, 0, 0, 1), ErrIndex}, {ins(Branch, 2, 1, 0), api.OK}, {ins(Branch, 2, 2, 0), ErrIndex}, {raising(listed(indexed(ins(Direct, 0, 0, 0), 0), 1), 4), api.OK}, {raising(listed(indexed(ins(Direct, 0, 0, 0), 0), 1), 0), api.OK}, {raising(listed(indexed(ins(Direct, 0, 0, 0), 0), 1), 1), ErrIndex}, {raising(listed(indexed(ins(Direct, 0, 0, 0), 0), 1), 5), ErrIndex}, {raising(listed(indexed(ins(Direct, 0, 0, 0), 0), 1), 1<<31-1), ErrIndex},
	} {
		wants(t, c.i, c.e)
	}
}

// wants checks the error of a program that has an instruction and then a return.
func wants(t *testing.T, i Ins, want api.Errno) {
	t.Helper()
	p := program(i, giveBack)
	if fault, e := Check(p); e != want || fault != (Fault{}) {
		t.Errorf("%v: %v, error %d, not %d", i, fault, e, want)
	}
}

// TestCheckMaps: what a map may say.
func TestCheckMaps(t *testing.T) {
	call := listed(indexed(ins(Direct, 0, 0, 0), 0), 1)
	for i, c := range []struct {
		maps []Map
		at   int
	}{
		{nil, -1}, {[]Map{{0, nil}}, -1}, {[]Map{{0, []int{0, 1, 2, 3}}, {4, []int{3}}}, -1}, {[]Map{{4, []int{1}}}, -1},
		{[]Map{{4, nil}, {0, nil}}, 0}, {[]Map{{0, nil}, {0, nil}}, 0}, {[]Map{{1, nil}}, 1}, {[]Map{{3, nil}}, 3}, {[]Map{{7, nil}}, 7}, {[]Map{{-1, nil}}, -1 << 20}, {[]Map{{99, nil}}, 99}, {[]Map{{1 << 62, nil}}, 1 << 62}, {[]Map{{-1 << 63, nil}}, -1 << 63},
		{[]Map{{0, []int{0, 0}}}, 0}, {[]Map{{0, []int{1, 0}}}, 0}, {[]Map{{0, nil}, {4, []int{4}}}, 4}, {[]Map{{4, []int{-1}}}, 4}, {[]Map{{4, []int{0, 1 << 62}}}, 4},
	} {
		p := program(call, ins(Move, 0, 1, 0), call, giveBack)
		p.Functions[0].Maps = c.maps
		want := Fault{0, c.at}
		e2 := ErrIndex
		switch c.at {
		case -1:
			want, e2 = Fault{}, api.OK
		case -1 << 20:
			want.At = -1
		}
		if fault, e := Check(p); fault != want || e != e2 {
			t.Errorf("%d: %v, error %d, not %v", i, fault, e, want)
		}
	}
}

// TestFlow checks P24.4, of programs by chance.
func TestFlow(t *testing.T) {
	for seed := range 300 {
		m := &codes.Maker{Pick: sample.Source(uint64(seed)), Tidy: seed%2 == 0}
		p := m.Program(3, 12)
		if fault, e := Check(p); e != api.OK {
			t.Fatalf("seed %d: %v, error %d", seed, fault, e)
		}
		for _, f := range p.Functions {
			l, _, _ := All(f.Words)
			begins := map[int]bool{len(f.Words): true}
			for _, i := range l {
				begins[i.At] = true
			}
			for _, i := range l {
				for _, at := range Next(i) {
					if !begins[at] {
						t.Errorf("seed %d: %v leads to %d", seed, i, at)
					}
				}
				reads, writes := Uses(i)
				for _, r := range append(reads, max(writes, 0)) {
					if r < 0 || r >= len(f.Classes) {
						t.Errorf("seed %d: %v has the register %d", seed, i, r)
					}
				}
			}
		}
	}
}

// TestEqual: programs that differ in one place.
func TestEqual(t *testing.T) {
	make1 := func() Program {
		p := program(listed(indexed(ins(Direct, 0, 0, 0), 0), 1), giveBack)
		p.Functions[0].Maps = []Map{{0, []int{1}}}
		return p
	}
	l := []func(p *Program){
		func(p *Program) { p.Functions = append(p.Functions, p.Functions[0]) }, func(p *Program) { p.Functions[0].Name = "g" }, func(p *Program) { p.Functions[0].Params = 0 }, func(p *Program) { p.Functions[0].Classes[1] = Num }, func(p *Program) { p.Functions[0].Words[0]++ }, func(p *Program) { p.Functions[0].Maps[0].At = 1 }, func(p *Program) { p.Functions[0].Maps[0].Live[0] = 0 }, func(p *Program) { p.Functions[0].Maps = nil },
		func(p *Program) { p.Texts[0] = "" }, func(p *Program) { p.Types[0].Cap = 2 }, func(p *Program) { p.Types[0].Args = p.Types[1:2] }, func(p *Program) { p.Values[0].Hi = 1 }, func(p *Program) { p.Values[0].Kids = make([]api.Value, 1) }, func(p *Program) { p.Entities[0] = "" }, func(p *Program) { p.Selectors = p.Selectors[1:] }, func(p *Program) { p.Vector[0].Method++ }, func(p *Program) { p.Offsets[0]++ }, func(p *Program) { p.Colours[0]++ },
	}
	if !Equal(make1(), make1()) || !Equal(Program{}, Program{Texts: []string{}, Types: []api.Type{}, Functions: []Function{}}) {
		t.Error("equal programs")
	}
	for i, change := range l {
		p := make1()
		change(&p)
		if Equal(p, make1()) || Equal(make1(), p) || !Equal(p, p) {
			t.Errorf("change %d", i)
		}
	}
	deep := api.Type{Kind: api.TypeUnion}
	kids := api.Value{Kind: api.ValTuple}
	for range 60 {
		deep = api.Type{Kind: api.TypeUnion, Args: []api.Type{deep, deep}}
		kids = api.Value{Kind: api.ValTuple, Kids: []api.Value{kids, kids}}
	}
	p := Program{Types: []api.Type{deep}, Values: []api.Value{kids}}
	if !Equal(p, p) {
		t.Error("a program is not equal to itself")
	}
}

// TestGarbage: programs of any form are checked, and written only if they are right.
func TestGarbage(t *testing.T) {
	rights := 0
	for seed := range 3000 {
		m := &codes.Maker{Pick: sample.Source(uint64(seed))}
		p := m.Garbage()
		fault, e := Check(p)
		s, e2 := Print(p)
		b, e3 := Encode(p)
		if e != e2 || e != api.OK && (s != "" || b != nil || e3 != e) || e == api.OK && (fault != Fault{} || e3 != api.OK && e3 != api.ErrRange) {
			t.Fatalf("seed %d: errors %d, %d, %d at %v", seed, e, e2, e3, fault)
		}
		if e == api.OK {
			rights++
		}
	}
	if rights < 300 || rights > 2500 {
		t.Errorf("%d are right", rights)
	}
	if i, e := Read([]uint32{0xffffffff}, 0); e != ErrWord || !reflect.DeepEqual(i, Ins{}) {
		t.Errorf("%v, error %d", i, e)
	}
}
