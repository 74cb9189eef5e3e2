package colour_test

import (
	"fmt"
	"reflect"
	"slices"
	"strconv"
	"testing"

	"hackamore/api"
	. "hackamore/colour"
	"hackamore/ssa"
)

func fn(name string, end ssa.End, l ...ssa.Ins) ssa.Func {
	for i := range l {
		l[i].Result = i + 1
	}
	return ssa.Func{Name: name, Params: make([]api.Type, 1), Blocks: []ssa.Block{{Ins: l, End: end}}}
}

func typ(name string) api.Type { return api.Type{Kind: api.TypeName, Name: name, Cap: api.Val} }

func program() ssa.Program {
	back := ssa.End{Kind: ssa.Return, Args: []int{0}}
	trying := fn("A.b.c", ssa.End{Kind: ssa.Try, To: []int{1, 2}, Call: ssa.Ins{Op: ssa.Call, Result: 90, Text: "tried", Args: []int{0}}})
	trying.Blocks = append(trying.Blocks, ssa.Block{End: back}, ssa.Block{End: ssa.End{Kind: ssa.Try, To: []int{3, 4}, Call: ssa.Ins{Op: ssa.Direct, Result: 91, Text: "free", Args: []int{0}}}}, ssa.Block{End: back}, ssa.Block{End: back})
	return ssa.Program{
		Entities: []api.Entity{{Kind: api.Trait, Name: "T"}, {Kind: api.Class, Name: "A"}, {Kind: api.Actor, Name: "A.b"}, {Kind: api.Primitive, Name: "String"}, {Kind: api.Interface, Name: "I"}, {Kind: api.Class, Name: "A"}, {Kind: 9, Name: "odd"}},
		Funcs: []ssa.Func{
			fn("A.m", back, ssa.Ins{Op: ssa.Call, Text: "z", Args: []int{0}}, ssa.Ins{Op: ssa.Send, Text: "go", Args: []int{0}}, ssa.Ins{Op: ssa.Call, Text: "go", Args: []int{0}}, ssa.Ins{Op: ssa.Direct, Text: "free", Args: []int{0}}, ssa.Ins{Op: ssa.Direct, Text: "A.b.c", Args: []int{0}}, ssa.Ins{Op: ssa.Spawn, Name: "A", Text: "m"}, ssa.Ins{Op: ssa.Spawn, Name: "A.b", Text: "nope"}, ssa.Ins{Op: ssa.Spawn, Name: "nope", Text: "nope"}),
			trying,
			fn("free", back, ssa.Ins{Op: ssa.Make, Text: "A.b"}, ssa.Ins{Op: ssa.Make, Text: "T"}, ssa.Ins{Op: ssa.Text, Type: typ("A")}),
			fn("T.x", back, ssa.Ins{Op: ssa.Const, Type: typ("A")}, ssa.Ins{Op: ssa.Const, Type: api.Type{Kind: api.TypeParam, Name: "String"}}, ssa.Ins{Op: ssa.Native, Type: typ("A.b"), Text: "n"}, ssa.Ins{Op: ssa.Load, Type: typ("String"), Text: "n"}),
			fn("String.", back), fn("A", back), fn("A.b.go", back),
		},
	}
}

func TestOf(t *testing.T) {
	w, classes, selectors, methods, e := Of(program(), []string{"free", "A.m", "free"})
	if e != api.OK {
		t.Fatalf("error %d", e)
	}
	if !slices.Equal(classes, []string{"A", "A.b", "String", "A"}) || !slices.Equal(methods, []string{"A.m", "A.b.c", "free", "T.x", "String.", "A", "A.b.go"}) {
		t.Errorf("%q %q", classes, methods)
	}
	if !slices.Equal(selectors, []string{"", "b.c", "b.go", "go", "m", "tried", "z"}) {
		t.Errorf("%q", selectors)
	}
	want := World{
		Classes: [][]Entry{{{1, 1}, {2, 6}, {4, 0}}, {{3, 6}}, {{0, 4}}, nil},
		Bodies:  []Body{{[]int{3, 6}, []int{0, 1, 2}, []int{0, 1}}, {[]int{5}, []int{2}, nil}, {nil, nil, []int{0, 1, 2}}, {nil, nil, []int{0, 1}}, {}, {}, {}},
		Roots:   []int{2, 0, 2},
	}
	if fmt.Sprint(w) != fmt.Sprint(want) {
		t.Errorf("%v, not %v", w, want)
	}
	if m, c, s, _ := Reach(w); len(m) != 4 || len(c) != 3 || !reflect.DeepEqual(s, []int{3, 5, 6}) {
		t.Errorf("%v %v %v", m, c, s)
	}
}

func TestOfErrors(t *testing.T) {
	back := ssa.End{Kind: ssa.Return, Args: []int{0}}
	call := func(from, n int) []ssa.Ins {
		var l []ssa.Ins
		for i := range n {
			l = append(l, ssa.Ins{Op: ssa.Call, Text: strconv.Itoa(from + i), Args: []int{0}})
		}
		return l
	}
	many := func(n, more int) ssa.Program {
		p := ssa.Program{}
		for i := range n {
			p.Funcs = append(p.Funcs, fn(strconv.Itoa(i), back, call(100*i, 100)...))
		}
		p.Funcs = append(p.Funcs, fn("last", back, call(100*n, more)...))
		return p
	}
	understanding := func(n int) ssa.Program {
		p := ssa.Program{Entities: []api.Entity{{Kind: api.Class, Name: "C"}}}
		for i := range n {
			p.Funcs = append(p.Funcs, fn("C."+strconv.Itoa(i), back))
		}
		return p
	}
	for i, c := range []struct {
		p     ssa.Program
		roots []string
		e     api.Errno
	}{
		{ssa.Program{}, nil, api.OK}, {ssa.Program{}, []string{"x"}, api.ErrNone}, {ssa.Program{Funcs: []ssa.Func{{}}}, []string{"x"}, api.ErrSize}, {ssa.Program{Entities: make([]api.Entity, 201)}, nil, api.ErrSize},
		{program(), []string{"A.m", "A.n"}, api.ErrNone}, {program(), slices.Repeat([]string{"A.m"}, 64), api.OK}, {program(), slices.Repeat([]string{"A.m"}, 65), api.ErrSize}, {ssa.Program{Funcs: []ssa.Func{fn("a", back), fn("a", back)}}, []string{"x"}, api.ErrTwice},
		{many(5, 0), nil, api.OK}, {many(5, 1), []string{"x"}, api.ErrSize}, {many(0, 101), []string{"last"}, api.ErrSize}, {many(0, 100), []string{"last"}, api.OK}, {many(0, 101), []string{"x"}, api.ErrNone},
		{understanding(100), nil, api.OK}, {understanding(101), nil, api.ErrSize},
	} {
		w, classes, selectors, methods, e := Of(c.p, c.roots)
		if e != c.e || e != api.OK && (len(w.Bodies)+len(w.Classes)+len(w.Roots)+len(classes)+len(selectors)+len(methods) > 0) {
			t.Errorf("%d: error %d, not %d", i, e, c.e)
		}
	}
}
