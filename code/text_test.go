package code_test

import (
	"slices"
	"strings"
	"testing"

	"hackamore/api"
	. "hackamore/code"
	"hackamore/colour"
	"hackamore/internal/codes"
	"hackamore/internal/sample"
	"hackamore/types"
)

// small is a program with a little of everything, whose text and bytes are written down below.
func small() Program {
	call := raising(listed(indexed(ins(Call, 1, 0, 0), 0), 0, 1), 4)
	return Program{
		Functions: []Function{{Name: "f", Params: 1, Classes: []int{Any, Any, Num}, Words: joined(call, giveBack), Maps: []Map{{0, []int{0, 1}}}}, {Words: joined(ins(Stuck, 0, 0, 0))}},
		Texts:     []string{"aZ\n", ""},
		Types:     []api.Type{types.Named("U8", api.Val, nil)},
		Values:    []api.Value{{Kind: 16, Lo: 300, Hi: 1<<64 - 1, Name: "x"}},
		Entities:  []string{"E"},
		Selectors: []string{"\xff"},
		Vector:    []colour.Slot{{Selector: -1, Method: 7}},
		Offsets:   []int{-1},
		Colours:   []int{200},
	}
}

const smallText = `text x615a0a
text x
type U8 val
value 16 300 18446744073709551615 x78
entity x45
selector xff
slot -1 7
offset -1
colour 200
function x66 1 221
word 0102010b
word 00000000
word 00000004
word 00000100
word 00000014
map 0 0 1
function x 0 -
word 00000016
`

var smallBytes = []byte{
	2, 1, 'f', 1, 3, 2, 2, 1, 5, 0x0b, 1, 2, 1, 0, 0, 0, 0, 4, 0, 0, 0, 0, 1, 0, 0, 0x14, 0, 0, 0, 1, 0, 2, 0, 1,
	0, 0, 0, 1, 0x16, 0, 0, 0, 0,
	2, 3, 'a', 'Z', '\n', 0, 1, 6, 'U', '8', ' ', 'v', 'a', 'l', 1, 16, 0xac, 2, 255, 255, 255, 255, 255, 255, 255, 255, 255, 1, 1, 'x',
	1, 1, 'E', 1, 1, 0xff, 1, 0, 8, 1, 0, 1, 0xc9, 1,
}

// largeTypes returns types whose texts have more bytes than layer 8 reads.
func largeTypes() []api.Type {
	name := func(c string, args ...api.Type) api.Type { return types.Named(strings.Repeat(c, 290), api.Val, args) }
	var many []api.Type
	for i := range 60 {
		many = append(many, name([]string{"a", `"`, `\`, "(", "]", ", ", " | "}[i%7]))
		many[i].Name = many[i].Name[:289] // an odd number of quotes
	}
	group := func(kind int, l ...api.Type) api.Type { return api.Type{Kind: kind, Args: l} }
	l := []api.Type{name("b", many...), group(api.TypeUnion, many...), group(api.TypeBoth, many...), group(api.TypeTuple, many...)}
	return append(l, group(api.TypeArrow, api.Type{Kind: api.TypeSelf, Mark: api.Aliased}, l[0]), group(api.TypeArrow, api.Type{Kind: api.TypeParam, Name: "A"}, group(api.TypeUnion, l[3], name("c", l[1]))), name("d", l[2], group(api.TypeTuple, l[0], many[3])))
}

func TestSmall(t *testing.T) {
	s, e := Print(small())
	if s != smallText || e != api.OK {
		t.Errorf("%s, error %d", s, e)
	}
	if p, n, e := Parse(smallText); !Equal(p, small()) || n != 0 || e != api.OK {
		t.Errorf("%v, line %d, error %d", p, n, e)
	}
	b, e := Encode(small())
	if !slices.Equal(b, smallBytes) || e != api.OK {
		t.Errorf("%v, error %d", b, e)
	}
	if p, e := Decode(smallBytes); !Equal(p, small()) || e != api.OK {
		t.Errorf("%v, error %d", p, e)
	}
}

// TestBack checks P24.3.
func TestBack(t *testing.T) {
	back := func(what string, p Program) {
		t.Helper()
		s, e := Print(p)
		if e != api.OK {
			t.Fatalf("%s: Print: error %d", what, e)
		}
		if q, n, e := Parse(s); e != api.OK || n != 0 || !Equal(p, q) {
			t.Errorf("%s: Parse: line %d, error %d\n%s", what, n, e, s[:min(len(s), 1000)])
		}
		b, e := Encode(p)
		if e != api.OK {
			t.Fatalf("%s: Encode: error %d", what, e)
		}
		if q, e := Decode(b); e != api.OK || !Equal(p, q) {
			t.Errorf("%s: Decode: error %d", what, e)
		}
	}
	for seed := range 300 {
		m := &codes.Maker{Pick: sample.Source(uint64(seed)), Tidy: seed%2 == 0}
		p := m.Program(4, 20)
		tm := sample.TypeMaker{Pick: m.Pick, Names: map[int][]string{0: {"a", "A b", "\n"}, 1: {"L"}, 2: {"M"}}, Params: []string{"A"}, Self: true}
		p.Types = append(p.Types, tm.Type(3))
		back("by chance", p)
	}
	back("nothing", Program{})
	for _, x := range largeTypes() {
		s, e := types.Text(x)
		if e != api.OK || len(s) <= 20000 {
			t.Fatalf("a text of %d bytes, error %d", len(s), e)
		}
		back("a large type", Program{Types: []api.Type{x, types.Named("U8", api.Val, nil)}})
	}
	back("numbers", Program{Values: []api.Value{{Kind: 1<<40 - 1, Lo: 1 << 63, Hi: 127}, {Lo: 128, Hi: 1<<64 - 1}}, Offsets: []int{-1, 0, 126, 127, 128, 1<<40 - 1}, Colours: []int{1<<40 - 1}, Vector: []colour.Slot{{Selector: 1<<40 - 1, Method: -1}}})
	p := Program{Values: []api.Value{{Kind: -1 << 63}, {Kind: 1<<63 - 1}}, Offsets: []int{-1 << 63, 1<<63 - 1}, Vector: []colour.Slot{{Selector: -2, Method: 1 << 62}}}
	s, e := Print(p)
	if q, n, e2 := Parse(s); e != api.OK || e2 != api.OK || n != 0 || !Equal(p, q) {
		t.Errorf("line %d, errors %d, %d\n%s", n, e, e2, s)
	}
}

// changedLine returns the text with another line in the place of one.
func changedLine(n int, line string) string {
	l := strings.SplitAfter(smallText, "\n")
	l[n-1] = line
	return strings.Join(l, "")
}

func without(n int) string { return changedLine(n, "") }

// TestParse: lines that have not their form, or stand at a wrong place.
func TestParse(t *testing.T) {
	large, _ := types.Text(largeTypes()[0])
	for i, c := range []struct {
		s    string
		line int
		e    api.Errno
	}{
		{"", 0, api.OK}, {"\n", 1, ErrLine}, {"text x", 1, ErrLine}, {"text x\n", 0, api.OK}, {smallText[:len(smallText)-1], 18, ErrLine}, {smallText + "\n", 19, ErrLine}, {smallText + "x", 19, ErrLine}, {strings.Repeat("text x\n", 5000), 0, api.OK}, {strings.Repeat("text x\n", 5001), 0, api.ErrSize},
		{strings.Repeat("x", 2000000), 1, ErrLine}, {strings.Repeat("x", 2000001), 0, api.ErrSize}, {strings.Repeat("\n", 2000001), 0, api.ErrSize},
		{changedLine(1, "text x615\n"), 1, ErrLine}, {changedLine(1, "text x6G\n"), 1, ErrLine}, {changedLine(1, "text x6A\n"), 1, ErrLine}, {changedLine(1, "text 61\n"), 1, ErrLine}, {changedLine(1, "text\n"), 1, ErrLine}, {changedLine(1, "text \n"), 1, ErrLine}, {changedLine(1, "text x \n"), 1, ErrLine}, {changedLine(1, " text x\n"), 1, ErrLine}, {changedLine(1, "text  x\n"), 1, ErrLine}, {changedLine(1, "text x\r\n"), 1, ErrLine}, {changedLine(1, "texts x\n"), 1, ErrLine}, {changedLine(1, "Text x\n"), 1, ErrLine},
		{changedLine(3, "type U8  val\n"), 3, ErrLine}, {changedLine(3, "type U8\n"), 3, ErrLine}, {changedLine(3, "type \n"), 3, ErrLine}, {changedLine(3, "type\n"), 3, ErrLine}, {changedLine(3, "type (U8 val | U8 val)\n"), 0, api.OK}, {changedLine(3, "type "+large+"\n"), 0, api.OK}, {changedLine(3, "type "+large+" \n"), 3, ErrLine}, {changedLine(3, "type ("+large+")\n"), 3, ErrLine}, {changedLine(3, "type "+strings.Repeat("(", 30000)+"\n"), 3, ErrLine}, {changedLine(3, "type "+strings.Repeat("a[b]", 30000)+"\n"), 3, ErrLine}, {changedLine(3, "type "+strings.Repeat("a[", 30000)+"\n"), 3, ErrLine}, {changedLine(3, "type a"+strings.Repeat("]", 30000)+"\n"), 3, ErrLine}, {changedLine(3, "type "+strings.Repeat("a", 30000)+"\n"), 3, ErrLine}, {changedLine(3, "type ("+strings.Repeat("a, ", 30000)+"a)\n"), 3, ErrLine},
		{changedLine(4, "value 16 300 1 x78 \n"), 4, ErrLine}, {changedLine(4, "value 16 300 1\n"), 4, ErrLine}, {changedLine(4, "value 16 300 18446744073709551616 x\n"), 4, ErrLine}, {changedLine(4, "value 16 -1 1 x\n"), 4, ErrLine}, {changedLine(4, "value 016 1 1 x\n"), 4, ErrLine}, {changedLine(4, "value +6 1 1 x\n"), 4, ErrLine}, {changedLine(4, "value -0 1 1 x\n"), 4, ErrLine}, {changedLine(4, "value -6 1 1 x\n"), 0, api.OK}, {changedLine(4, "value 9223372036854775808 1 1 x\n"), 4, ErrLine}, {changedLine(4, "value 0x1 1 1 x\n"), 4, ErrLine}, {changedLine(4, "value 1_0 1 1 x\n"), 4, ErrLine}, {changedLine(4, "value 1 01 1 x\n"), 4, ErrLine}, {changedLine(4, "value 1 1 1 x"+strings.Repeat("61", 301)+"\n"), 0, api.ErrForm},
		{changedLine(7, "slot -1\n"), 7, ErrLine}, {changedLine(7, "slot -1 7 7\n"), 7, ErrLine}, {changedLine(7, "slot 1 -9\n"), 0, api.OK}, {changedLine(8, "offset\n"), 8, ErrLine}, {changedLine(8, "offset 1 2\n"), 8, ErrLine}, {changedLine(8, "offset x\n"), 8, ErrLine}, {changedLine(9, "colour 2.0\n"), 9, ErrLine},
		{changedLine(10, "function x66 1 22a\n"), 10, ErrLine}, {changedLine(10, "function x66 1 \n"), 10, ErrLine}, {changedLine(10, "function x66 1\n"), 10, ErrLine}, {changedLine(10, "function x66 1 221 1\n"), 10, ErrLine}, {changedLine(10, "function x66 3 221\n"), 0, api.ErrForm}, {changedLine(10, "function x66 1 223\n"), 0, api.ErrForm}, {changedLine(10, "function x66 1 220\n"), 0, api.ErrForm}, {changedLine(10, "function x66 1 229\n"), 0, api.ErrForm}, {changedLine(10, "function x66 1 22:\n"), 10, ErrLine}, {changedLine(10, "function x66 1 22/\n"), 10, ErrLine}, {changedLine(10, "function x66 1 -\n"), 0, api.ErrForm}, {changedLine(17, "function x 0 22\n"), 0, api.OK},
		{changedLine(11, "word 0102010B\n"), 11, ErrLine}, {changedLine(11, "word 102010b\n"), 11, ErrLine}, {changedLine(11, "word 00102010b\n"), 11, ErrLine}, {changedLine(11, "word 0x02010b\n"), 11, ErrLine}, {changedLine(15, "word 00000018\n"), 0, ErrWord}, {changedLine(15, "word 00000914\n"), 0, ErrIndex}, {without(15), 0, ErrIndex}, {without(10), 10, ErrLine},
		{changedLine(16, "map 0 1 0\n"), 0, ErrIndex}, {changedLine(16, "map 0\n"), 0, api.OK}, {changedLine(16, "map\n"), 16, ErrLine}, {changedLine(16, "map \n"), 16, ErrLine}, {changedLine(16, "map 0 \n"), 16, ErrLine}, {changedLine(16, "map 0  1\n"), 16, ErrLine}, {changedLine(16, "map 4\n"), 0, ErrIndex}, {changedLine(16, "map 0\nword 00000014\n"), 17, ErrLine}, {changedLine(16, "text x\n"), 16, ErrLine}, {changedLine(18, "map 0\n"), 0, api.ErrSize}, {without(18), 0, api.ErrSize},
		{changedLine(3, "type U8 val\ntext x\n"), 4, ErrLine}, {changedLine(9, "colour 200\noffset 1\n"), 10, ErrLine}, {changedLine(9, "colour 200\nword 00000014\n"), 10, ErrLine}, {changedLine(9, "colour 200\nmap 0\n"), 10, ErrLine}, {changedLine(6, "slot 1 1\nselector x\n"), 7, ErrLine}, {"word 00000014\n", 1, ErrLine}, {"map 0\n", 1, ErrLine}, {"function x 0 -\nfunction x 0 -\n", 0, api.ErrSize}, {"bad\nbad\n", 1, ErrLine}, {"text x\nbad", 2, ErrLine},
	} {
		p, n, e := Parse(c.s)
		if n != c.line || e != c.e || e != api.OK && !Equal(p, Program{}) {
			t.Errorf("%d: line %d, error %d, not %d, %d", i, n, e, c.line, c.e)
		}
		if s, _ := Print(p); e == api.OK && s != c.s {
			t.Errorf("%d: another text", i)
		}
	}
	for seed := range 3000 { // texts that differ in a few bytes
		pick := sample.Source(uint64(seed))
		b := []byte(smallText)
		for range 1 + pick(2) {
			b[pick(len(b))] = []byte("x0127 \n-+aftv\xff")[pick(14)]
		}
		p, n, e := Parse(string(b))
		if s, _ := Print(p); e == api.OK && s != string(b) || (e == ErrLine) != (n > 0) {
			t.Errorf("seed %d: line %d, error %d: %q", seed, n, e, b)
		}
	}
}

// TestEncode: what cannot be written.
func TestEncode(t *testing.T) {
	for i, c := range []struct {
		p Program
		e api.Errno
	}{
		{Program{Values: []api.Value{{Kind: -1}}}, api.ErrRange}, {Program{Values: []api.Value{{Kind: 1 << 40}}}, api.ErrRange}, {Program{Vector: []colour.Slot{{Selector: -2}}}, api.ErrRange}, {Program{Vector: []colour.Slot{{Method: -2}}}, api.ErrRange}, {Program{Vector: []colour.Slot{{Method: 1 << 40}}}, api.ErrRange}, {Program{Vector: []colour.Slot{{Selector: 1 << 40}}}, api.ErrRange}, {Program{Offsets: []int{-2}}, api.ErrRange}, {Program{Offsets: []int{1 << 40}}, api.ErrRange}, {Program{Colours: []int{-1 << 63}}, api.ErrRange}, {Program{Colours: []int{1 << 40}}, api.ErrRange}, {Program{Colours: []int{1<<63 - 1}}, api.ErrRange},
		{Program{Texts: slices.Repeat([]string{strings.Repeat("x", 20000)}, 99)}, api.OK}, {Program{Texts: slices.Repeat([]string{strings.Repeat("x", 20000)}, 100)}, api.ErrLarge}, {Program{Texts: slices.Repeat([]string{strings.Repeat("x", 20000)}, 5000)}, api.ErrLarge}, {Program{Texts: slices.Repeat([]string{strings.Repeat("x", 20000)}, 100), Offsets: []int{-2}}, api.ErrRange}, {Program{Texts: slices.Repeat([]string{strings.Repeat("x", 20001)}, 100), Offsets: []int{-2}}, api.ErrForm},
	} {
		b, e := Encode(c.p)
		if e != c.e || e != api.OK && b != nil {
			t.Errorf("%d: error %d, not %d", i, e, c.e)
		}
	}
	// A program of just as many bytes as there may be: 100 texts of 19980 bytes and their lengths, and one that fills up.
	l := slices.Repeat([]string{strings.Repeat("x", 19980)}, 100)
	b, _ := Encode(Program{Texts: l})
	fill := MaxBytes - len(b) - 2
	b, e := Encode(Program{Texts: append(l, strings.Repeat("x", fill))})
	if e != api.OK || len(b) != MaxBytes {
		t.Errorf("%d bytes, error %d", len(b), e)
	}
	if p, e := Decode(b); e != api.OK || len(p.Texts) != 101 {
		t.Errorf("error %d", e)
	}
	if b, e := Encode(Program{Texts: append(l, strings.Repeat("x", fill+1))}); e != api.ErrLarge || b != nil {
		t.Errorf("%d bytes, error %d", len(b), e)
	}
}

// TestDecode: bytes that are no program.
func TestDecode(t *testing.T) {
	nothing := make([]byte, 9)
	at := func(n int, b ...byte) []byte { return slices.Concat(nothing[:n], b, nothing[n+1:]) }
	for i, c := range []struct {
		b []byte
		e api.Errno
	}{
		{nil, ErrBytes}, {nothing, api.OK}, {nothing[:8], ErrBytes}, {append(nothing, 0), ErrBytes}, {make([]byte, 2000001), api.ErrSize}, {make([]byte, 2000000), ErrBytes},
		{at(0, 128, 0), ErrBytes}, {at(0, 129, 0), ErrBytes}, {at(0, 1), ErrBytes}, {at(0, 255, 255, 255, 255, 255, 255, 255, 255, 255, 1), ErrBytes}, {at(1, 1, 0), api.OK}, {at(1, 1, 1, 'x'), api.OK}, {at(1, 1, 200), ErrBytes}, {at(1, 0x81, 0x80, 0), ErrBytes},
		{at(2, 1, 6, 'U', '8', ' ', 'v', 'a', 'l'), api.OK}, {at(2, 1, 5, 'U', '8', ' ', 'v', 'a'), ErrBytes}, {at(2, 1, 0), ErrBytes}, {at(2, 1, 2, 'U', '8'), ErrBytes},
		{at(3, 1, 128, 128, 128, 128, 128, 32, 0, 0, 0), api.OK}, {at(3, 1, 129, 128, 128, 128, 128, 32, 0, 0, 0), ErrBytes}, {at(3, 1, 0, 255, 255, 255, 255, 255, 255, 255, 255, 255, 1, 0, 0), api.OK}, {at(3, 1, 0, 255, 255, 255, 255, 255, 255, 255, 255, 255, 2, 0, 0), ErrBytes}, {at(3, 1, 0, 128, 128, 128, 128, 128, 128, 128, 128, 128, 128, 1, 0, 0), ErrBytes},
		{at(7, 1, 0), api.OK}, {at(7, 1, 128, 128, 128, 128, 128, 32), api.OK}, {at(7, 1, 129, 128, 128, 128, 128, 32), ErrBytes}, {at(8, 2, 0), ErrBytes}, {at(0, 1, 0, 0, 0, 0, 0), api.ErrSize}, {at(0, 1, 0, 0, 0, 1, 0x16, 0, 0, 0, 0), api.OK}, {at(0, 1, 0, 0, 0, 1, 0x18, 0, 0, 0, 0), ErrWord}, {at(0, 1, 0, 1, 0, 1, 0x16, 0, 0, 0, 0), api.ErrForm}, {at(0, 1, 0, 0, 1, 3, 1, 0x16, 0, 0, 0, 0), api.ErrForm}, {at(0, 1, 0, 0, 0, 1, 0x14, 0, 0, 0, 0), ErrIndex}, {at(0, 1, 0, 0, 0, 1, 0x16, 0, 0, 0, 1, 0, 0), ErrIndex},
	} {
		p, e := Decode(c.b)
		if e != c.e || e != api.OK && !Equal(p, Program{}) {
			t.Errorf("%d: error %d, not %d", i, e, c.e)
		}
	}
	if p, e := Decode(at(7, 1, 128, 128, 128, 128, 128, 32)); e != api.OK || p.Offsets[0] != 1<<40-1 {
		t.Errorf("%v, error %d", p.Offsets, e)
	}
}

// TestCuts checks P24.5.
func TestCuts(t *testing.T) {
	seen := map[string]Program{}
	for seed := range 150 {
		m := &codes.Maker{Pick: sample.Source(uint64(seed))}
		p := m.Program(2, 4)
		if seed == 0 {
			p = small()
		}
		b, e := Encode(p)
		if e != api.OK {
			t.Fatalf("seed %d: error %d", seed, e)
		}
		if q, ok := seen[string(b)]; ok && !Equal(p, q) {
			t.Errorf("seed %d: two programs with the same bytes", seed)
		}
		seen[string(b)] = p
		for n := range b {
			if _, e := Decode(b[:n]); e != ErrBytes {
				t.Errorf("seed %d: the first %d bytes: error %d", seed, n, e)
			}
		}
		for _, last := range []byte{0, 1, 127, 128, 255} {
			if _, e := Decode(append(slices.Clone(b), last)); e != ErrBytes {
				t.Errorf("seed %d: one byte more: error %d", seed, e)
			}
		}
		for n := range b { // bytes that differ in one place are another program, or none
			c := slices.Clone(b)
			c[n] ^= byte(1) << m.Pick(8)
			q, e := Decode(c)
			if again, e2 := Encode(q); e == api.OK && (Equal(p, q) || e2 == api.OK && !slices.Equal(again, c)) {
				t.Errorf("seed %d: byte %d", seed, n)
			}
		}
	}
}
