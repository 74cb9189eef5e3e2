package ssa_test

import (
	"math"
	"reflect"
	"slices"
	"strings"
	"testing"

	"hackamore/api"
	"hackamore/internal/sample"
	. "hackamore/ssa"
)

const printed = `func xmain.C.m~20 1:xU8:4:0 1 1:xmain.C~5bU8~20val~5d:3:2 3:x:0:0(1:xA:1:0,6:x:0:0(7:x:3:0,1:xB:0:0))
block
const 9 1:xU8:4:0 - x x 16:7:18446744073709551615:x(1:1:0:xa~2d_.Z,5:0:0:x) 0 0
text 2 0:x:0:0 - x~0a~7e~c3~a9 x 0:0:0:x 0 0
make 3 0:x:0:0 - xE x 0:0:0:x 0 1
spawn 4 0:x:0:0 0,1,9 xcreate xA 0:0:0:x 0 0
item 5 0:x:0:0 4 x x 0:0:0:x 63 0
try - 1,2 call 6 0:x:0:0 9 xm x 0:0:0:x 0 0
block
return 6 -
block
branch 0 3,4
block
error - -
block
jump - 5
block
stuck - -
`

func printedFunc() Func {
	f := fn(2,
		block(try(named(Call, 6, "m", 9), 1, 2),
			Ins{Op: Const, Result: 9, Type: api.Type{Kind: 1, Name: "U8", Cap: 4}, Lit: api.Value{Kind: 16, Lo: 7, Hi: math.MaxUint64, Kids: []api.Value{{Kind: 1, Lo: 1, Name: "a-_.Z"}, {Kind: 5}}}},
			named(Text, 2, "\n~é"), Ins{Op: Make, Result: 3, Text: "E", Flag: true}, Ins{Op: Spawn, Result: 4, Text: "create", Name: "A", Args: []int{0, 1, 9}}, Ins{Op: Item, Result: 5, Args: []int{4}, N: 63}),
		block(giveBack(6)), block(branch(0, 3, 4)), block(End{Kind: Error}), block(jump(5)), block(End{Kind: Stuck}))
	f.Name, f.Partial, f.Result = "main.C.m ", true, api.Type{Kind: 1, Name: "U8", Cap: 4}
	f.Params = []api.Type{{Kind: 1, Name: "main.C[U8 val]", Cap: 3, Mark: 2}, {Kind: 3, Args: []api.Type{{Kind: 1, Name: "A", Cap: 1}, {Kind: 6, Args: []api.Type{{Kind: 7, Cap: 3}, {Kind: 1, Name: "B"}}}}}}
	return f
}

func TestPrint(t *testing.T) {
	if s := text(t, printedFunc()); s != printed {
		t.Errorf("%s", s)
	}
	l, n, e := Parse(printed + printed)
	if e != api.OK || n != 0 || !reflect.DeepEqual(l, []Func{printedFunc(), printedFunc()}) {
		t.Errorf("line %d, error %d: %v", n, e, l)
	}
	if s, e := Print(nil); s != "" || e != api.OK {
		t.Errorf("%q, error %d", s, e)
	}
	if l, n, e := Parse(""); len(l) != 0 || n != 0 || e != api.OK {
		t.Errorf("%v %d %d", l, n, e)
	}
}

func deepType(levels int) api.Type {
	var t api.Type
	for range levels - 1 {
		t = api.Type{Args: []api.Type{t}}
	}
	return t
}

func TestPrintErrors(t *testing.T) {
	value := func(v api.Value) func(f *Func) { return func(f *Func) { f.Blocks[0].Ins[0].Lit = v } }
	result := func(x api.Type) func(f *Func) { return func(f *Func) { f.Result = x } }
	for i, c := range []struct {
		change func(f *Func)
		e      api.Errno
	}{
		{func(f *Func) { f.Blocks[0].Ins[3].Args[0] = 99 }, api.OK},
		{func(f *Func) { f.Blocks = nil; f.Result.Kind = -1 }, api.ErrSize},
		{func(f *Func) { f.Blocks[2].End.To[1] = 9; f.Result.Kind = -1 }, ErrBlock},
		{result(api.Type{Kind: 99, Cap: 99, Mark: 99}), api.OK},
		{result(api.Type{Kind: 100}), api.ErrForm}, {result(api.Type{Kind: -1}), api.ErrForm}, {result(api.Type{Cap: 100}), api.ErrForm}, {result(api.Type{Cap: -1}), api.ErrForm}, {result(api.Type{Mark: 100}), api.ErrForm}, {result(api.Type{Mark: -1}), api.ErrForm},
		{result(api.Type{Name: strings.Repeat("x", 201)}), api.ErrForm}, {result(api.Type{Name: strings.Repeat("x", 200)}), api.OK}, {result(api.Type{Name: "\xff"}), api.ErrForm},
		{result(deepType(20)), api.OK}, {result(deepType(21)), api.ErrForm},
		{result(api.Type{Args: make([]api.Type, 99)}), api.OK}, {result(api.Type{Args: make([]api.Type, 100)}), api.ErrForm},
		{func(f *Func) { f.Params[1].Args[1].Args[1].Mark = 100 }, api.ErrForm},
		{func(f *Func) { f.Blocks[0].Ins[4].Type = deepType(21) }, api.ErrForm},
		{func(f *Func) { f.Blocks[0].End.Call.Type = deepType(21) }, api.ErrForm},
		{value(api.Value{Kind: 99, Name: "\xff" + strings.Repeat("x", 999)}), api.OK}, {value(api.Value{Kind: 100}), api.ErrForm}, {value(api.Value{Kind: -1}), api.ErrForm}, {value(api.Value{Kids: []api.Value{{Kind: 100}}}), api.ErrForm},
		{value(api.Value{Name: strings.Repeat("x", 1000000-len(printed)-1+1)}), api.OK},
		{value(api.Value{Name: strings.Repeat("x", 1000000)}), api.ErrLarge},
		{value(deep(9)), api.ErrForm}, {value(deep(8)), api.OK},
	} {
		f := changed(printedFunc(), func(f *Func) {
			f.Params[1].Args = slices.Clone(f.Params[1].Args)
			f.Params[1].Args[1].Args = slices.Clone(f.Params[1].Args[1].Args)
		})
		c.change(&f)
		s, e := Print([]Func{printedFunc(), f}[1:])
		if e != c.e {
			t.Errorf("%d: error %d, not %d", i, e, c.e)
		}
		if l, n, e := Parse(s); c.e == api.OK && (e != api.OK || n != 0 || len(l) != 1 || !Equal(l[0], f)) {
			t.Errorf("%d: back: %d %d", i, n, e)
		}
		if s != "" && c.e != api.OK {
			t.Errorf("%d: a text with an error", i)
		}
	}
	bad := Func{}
	for i, c := range []struct {
		l []Func
		e api.Errno
	}{
		{make([]Func, 501), api.ErrSize},
		{[]Func{changed(printedFunc(), result(api.Type{Kind: 100})), bad}, api.ErrForm},
		{[]Func{printedFunc(), bad}, api.ErrSize},
		{slices.Repeat([]Func{printedFunc()}, 500), api.OK},
		{[]Func{changed(printedFunc(), value(api.Value{Name: strings.Repeat("x", 1000000)})), changed(printedFunc(), result(api.Type{Kind: 100}))}, api.ErrForm},
	} {
		if _, e := Print(c.l); e != c.e {
			t.Errorf("%d: error %d, not %d", i, e, c.e)
		}
	}
}

func TestParseErrors(t *testing.T) {
	lines := strings.SplitAfter(printed, "\n")
	with := func(n int, s string) string {
		l := slices.Clone(lines)
		l[n-1] = s
		return strings.Join(l, "")
	}
	const rest = " x x 0:0:0:x 0 0\n"
	for _, c := range []struct {
		s    string
		line int
		e    api.Errno
	}{
		{strings.Repeat("x", 1000001), 0, api.ErrSize}, {strings.Repeat("x", 1000000), 1, ErrLine},
		{"\n", 1, ErrLine}, {"block\n", 1, ErrLine}, {"func", 1, ErrLine}, {"func x 0:x:0:0 0", 1, ErrLine}, {"func x 0:x:0:0 0\n", 2, ErrLine}, {"func x 0:x:0:0 0\nblock\n", 3, ErrLine}, {"func x 0:x:0:0 0\nblock\nerror - -", 3, ErrLine},
		{"func x 0:x:0:0 0\nblock\nerror - -\n", 0, api.OK}, {"func x 0:x:0:0 0\nfunc x 0:x:0:0 0\n", 2, ErrLine}, {"func x 0:x:0:0 0\nblock\nblock\n", 3, ErrLine}, {"func x 0:x:0:0 0\nblock\nerror - -\nerror - -\n", 4, ErrLine}, {"func x 0:x:0:0 0\nerror - -\n", 2, ErrLine}, {"func x 0:x:0:0 0\nblock\nfunc x 0:x:0:0 0\n", 3, ErrLine},
		{"func x 0:x:0:0 0\nblock \nerror - -\n", 2, ErrLine}, {"func x 0:x:0:0\nblock\nerror - -\n", 1, ErrLine}, {"func x 0:x:0:0 2\n", 1, ErrLine}, {"func y 0:x:0:0 0\n", 1, ErrLine}, {"func x  0:x:0:0 0\n", 1, ErrLine}, {" func x 0:x:0:0 0\n", 1, ErrLine}, {"func x 0:x:0:0 0 \n", 1, ErrLine},
		{"func x~61 0:x:0:0 0\n", 1, ErrLine}, {"func x~2D 0:x:0:0 0\n", 1, ErrLine}, {"func x~2 0:x:0:0 0\n", 1, ErrLine}, {"func x- 0:x:0:0 0\n", 1, ErrLine}, {"func x~2g 0:x:0:0 0\n", 1, ErrLine}, {"func xé 0:x:0:0 0\n", 1, ErrLine}, {"func x~ff 0:x:0:0 0\nblock\nerror - -\n", 0, api.ErrForm},
		{"func x 00:x:0:0 0\n", 1, ErrLine}, {"func x +1:x:0:0 0\n", 1, ErrLine}, {"func x :x:0:0 0\n", 1, ErrLine}, {"func x 0:x:0 0\n", 1, ErrLine}, {"func x 0:x:0:0() 0\n", 1, ErrLine}, {"func x 0:x:0:0(0:x:0:0 0\n", 1, ErrLine}, {"func x 0:x:0:0(0:x:0:0,) 0\n", 1, ErrLine}, {"func x 0:x:0:0) 0\n", 1, ErrLine}, {"func x 1000000001:x:0:0 0\n", 1, ErrLine}, {"func x 1000000000:x:0:0 0\nblock\nerror - -\n", 0, api.ErrForm},
		{"func x 0:x:0:0(0:x:0:0)(0:x:0:0) 0\n", 1, ErrLine}, {"func x 0:x:0:0(0:x:0:0,0:x:0:0) 0\nblock\nerror - -\n", 0, api.OK},
		{with(3, "const 9 0:x:0:0 -"+rest), 0, api.OK}, {with(3, "nope 9 0:x:0:0 -"+rest), 3, ErrLine}, {with(3, "const 09 0:x:0:0 -"+rest), 3, ErrLine}, {with(3, "const 9 0:x:0:0 0,"+rest), 3, ErrLine}, {with(3, "const 9 0:x:0:0 "+rest), 3, ErrLine}, {with(3, "const 9 0:x:0:0 0"+rest), 0, api.ErrSize}, {with(3, "const 9 0:x:0:0 - x x 0:0:0:x 0 2\n"), 3, ErrLine}, {with(3, "const 9 0:x:0:0 - x x 0:0:0:x -1 0\n"), 3, ErrLine}, {with(3, "const 9 0:x:0:0 - x x 0:0:0:x 0\n"), 3, ErrLine}, {with(3, "const 9 0:x:0:0 - x x 0:0:0:x 0 0 0\n"), 3, ErrLine},
		{with(3, "const 9 0:x:0:0 - x x 0:18446744073709551616:0:x 0 0\n"), 3, ErrLine}, {with(3, "const 9 0:x:0:0 - x x 0:1:00:x 0 0\n"), 3, ErrLine}, {with(3, "const 9 0:x:0:0 - x x 100:1:0:x 0 0\n"), 0, api.ErrForm}, {with(3, "const 9 0:x:0:0 - xa x 1:1:0:x 0 0\n"), 0, api.ErrForm}, {with(3, "const 1 0:x:0:0 - x x 1:1:0:x 0 0\n"), 0, api.ErrRange}, {with(3, "const 9 0:x:0:0 - x x 1:1:0:x 0 0"), 3, ErrLine},
		{with(8, "try - 1,2\n"), 8, ErrLine}, {with(8, "try - 1,2 call 6 0:x:0:0 9 xm x 0:0:0:x 0\n"), 8, ErrLine}, {with(8, "try - 1,2 const 6 0:x:0:0 - x x 0:0:0:x 0 0\n"), 0, api.ErrArg}, {with(8, "try - 1,2 jump - 1 3 4 5 6 7 8\n"), 8, ErrLine}, {with(8, "try - 1,1 call 6 0:x:0:0 9 xm x 0:0:0:x 0 0\n"), 0, ErrBlock},
		{with(10, "return 6 - \n"), 10, ErrLine}, {with(10, "return 6\n"), 10, ErrLine}, {with(10, "return - -\n"), 0, api.ErrSize}, {with(10, "return 6 -\r\n"), 10, ErrLine}, {with(12, "branch 0 3;4\n"), 12, ErrLine}, {with(12, "branch 0 0,4\n"), 0, ErrBlock}, {with(18, "stuck - -"), 18, ErrLine}, {printed + "\n", 19, ErrLine}, {printed + "block\n", 20, ErrLine}, {printed + "func x 0:x:0:0 0\n", 20, ErrLine},
		{strings.Repeat("func x 0:x:0:0 0\nblock\nerror - -\n", 501), 0, api.ErrSize}, {strings.Repeat("func x 0:x:0:0 0\nblock\nerror - -\n", 500), 0, api.OK},
	} {
		l, n, e := Parse(c.s)
		if n != c.line || e != c.e || e != api.OK && l != nil {
			t.Errorf("%.60q: line %d, error %d, not %d, %d", c.s, n, e, c.line, c.e)
		}
	}
	for levels, e := range map[int]api.Errno{20: api.OK, 21: ErrLine} {
		s := strings.Repeat("0:x:0:0(", levels-1) + "0:x:0:0" + strings.Repeat(")", levels-1)
		if _, _, got := Parse("func x " + s + " 0\nblock\nerror - -\n"); got != e {
			t.Errorf("%d levels of a type: error %d", levels, got)
		}
		if e == api.OK {
			e = api.ErrForm
		}
		if _, _, got := Parse("func x 0:x:0:0 0\nblock\nconst 1 0:x:0:0 - x x " + s[:len(s)] + " 0 0\nerror - -\n"); got != e && levels == 21 {
			t.Errorf("%d levels of a value: error %d", levels, got)
		}
	}
}

// TestTexts checks P19.7, also with texts that are changed by chance.
func TestTexts(t *testing.T) {
	taken := 0
	for seed, f := range chances(150, true) {
		pick := sample.Source(uint64(seed) + 9000)
		s := text(t, f)
		l, n, e := Parse(s)
		if e != api.OK || n != 0 || len(l) != 1 || !Equal(l[0], f) || text(t, l[0]) != s {
			t.Fatalf("seed %d: line %d, error %d", seed, n, e)
		}
		for range 30 {
			at := pick(len(s))
			x := s[:at] + string("x-~:,()01 \n2fa"[pick(14)]) + s[at+pick(2):]
			l, _, e := Parse(x)
			if e != api.OK {
				continue
			}
			taken++
			if back, e := Print(l); e != api.OK || back != x {
				t.Fatalf("seed %d: %q becomes %q", seed, x, back)
			}
		}
	}
	if taken < 100 {
		t.Errorf("%d texts", taken)
	}
}
