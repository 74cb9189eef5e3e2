package code_test

import (
	"reflect"
	"slices"
	"strconv"
	"strings"
	"testing"

	"hackamore/api"
	. "hackamore/code"
	"hackamore/internal/sample"
)

func TestExamples(t *testing.T) {
	if w, e := Pack(1, 2, 3, 0); w != 0x00030201 || e != api.OK {
		t.Errorf("%x, error %d", w, e)
	}
	if l, e := Words(Ins{Op: Move, A: 2, B: 3, Raised: -1}); !slices.Equal(l, []uint32{0x00030201}) || e != api.OK {
		t.Errorf("%x, error %d", l, e)
	}
	direct := Ins{Op: Direct, B: 2, C: 1, Index: []int{7}, Raised: 9, List: []int{1, 2}}
	l, e := Words(direct)
	if !slices.Equal(l, []uint32{0x0102000c, 7, 9, 0x00000201}) || e != api.OK {
		t.Errorf("%x, error %d", l, e)
	}
	direct.Length = 4
	if i, e := Read(l, 0); !reflect.DeepEqual(i, direct) || e != api.OK {
		t.Errorf("%v, error %d", i, e)
	}
	if l, e := Words(giveBack); !slices.Equal(l, []uint32{0x00000014}) || e != api.OK {
		t.Errorf("%x, error %d", l, e)
	}
}

func TestPack(t *testing.T) {
	strange := []int{0, 1, 127, 128, 255, 256, -1, 1 << 40, -1 << 63}
	for seed := range 4000 {
		pick := sample.Source(uint64(seed))
		var n [4]int
		e := api.OK
		for i := range n {
			n[i] = strange[pick(5)]
			if pick(8) == 0 {
				n[i] = strange[pick(len(strange))]
			}
			if n[i] < 0 || n[i] > 255 {
				e = api.ErrRange
			}
		}
		w, e2 := Pack(n[0], n[1], n[2], n[3])
		if e2 != e || e != api.OK && w != 0 {
			t.Fatalf("%v: %x, error %d", n, w, e2)
		}
		op, a, b, c := Unpack(w)
		if e == api.OK && [4]int{op, a, b, c} != n {
			t.Errorf("%v: %d %d %d %d", n, op, a, b, c)
		}
	}
	for _, w := range []uint32{0, 0xffffffff, 0x80402010, 0x01020304} {
		if x, e := Pack(Unpack4(w)); x != w || e != api.OK {
			t.Errorf("%x: %x", w, x)
		}
	}
}

// Unpack4 is Unpack, so that what it returns can be handed on.
func Unpack4(w uint32) (int, int, int, int) { return Unpack(w) }

// spoiled returns an instruction that differs from another one in a few parts.
func spoiled(i Ins, pick func(int) int) Ins {
	strange := func() int {
		return []int{-1, 0, 1, 2, 3, 60, 61, 255, 256, 1<<31 - 1, 1 << 31, 1<<63 - 1, -1 << 63}[pick(13)]
	}
	i.Index, i.List = slices.Clone(i.Index), slices.Clone(i.List)
	for range pick(3) {
		switch pick(11) {
		case 0:
			i.Op = pick(27) - 1
		case 1:
			i.A = strange()
		case 2:
			i.B = strange()
		case 3:
			i.C = strange()
		case 4:
			i.Index = append(i.Index, strange())
		case 5:
			i.Index = nil
		case 6:
			if len(i.Index) > 0 {
				i.Index[pick(len(i.Index))] = strange()
			}
		case 7:
			i.Raised = strange()
		case 8:
			i.List = append(i.List, strange())
		case 9:
			i.List = append(i.List, strange())
			i.B++
		default:
			i.C, i.Raised = 1, strange()
		}
	}
	return i
}

// TestWords checks P24.2: of right instructions, and of those that differ from these.
func TestWords(t *testing.T) {
	type written struct{ words, what string }
	seen := map[string]string{}
	errors := map[api.Errno]int{}
	for seed := range 12000 {
		pick := sample.Source(uint64(seed))
		i := spoiled(sound(seed%Ops, pick(12)), pick)
		l, e := Words(i)
		if want := wanted(i); e != want || e != api.OK && l != nil {
			t.Fatalf("%v: error %d, not %d", i, e, want)
		}
		errors[e]++
		if e != api.OK {
			continue
		}
		ahead := []uint32{0x14, 99}[:pick(3)]
		i.At, i.Length = len(ahead), len(l)
		got, e := Read(slices.Concat(ahead, l, []uint32{0xffffffff}[:pick(2)]), len(ahead))
		if e != api.OK || !reflect.DeepEqual(normal(got), normal(i)) {
			t.Fatalf("%v, not %v, error %d", got, i, e)
		}
		x := i
		x.At, x.Length = 0, 0
		w := written{text(l), what(normal(x))}
		if had, ok := seen[w.words]; ok && had != w.what {
			t.Errorf("%s and %s have the words %s", had, w.what, w.words)
		}
		seen[w.words] = w.what
		for n := range l {
			if got, e := Read(l[:n], 0); e == api.OK || !reflect.DeepEqual(got, Ins{}) {
				t.Errorf("%v: the first %d of %d words are read: %v", i, n, len(l), got)
			}
		}
	}
	if errors[api.OK] < 3000 || errors[ErrWord] < 2000 || errors[api.ErrRange] < 500 {
		t.Errorf("%v", errors)
	}
	for n, want := range map[int]api.Errno{59: api.OK, 60: api.OK, 61: ErrWord, 255: ErrWord, 300: ErrWord} {
		for _, op := range []int{Tuple, Call, Direct, Native, Spawn, Send} {
			i := sound(op, n)
			l, e := Words(i)
			if e != want || e == api.OK && len(l) != 1+len(i.Index)+15 {
				t.Errorf("a list of %d: error %d", n, e)
			}
		}
	}
	i := sound(Call, 3)
	i.At, i.Length = -77, 1<<40
	if _, e := Words(i); e != api.OK {
		t.Errorf("error %d", e)
	}
}

// normal returns an instruction whose empty lists are nil.
func normal(i Ins) Ins {
	i.Index, i.List = append([]int(nil), i.Index...), append([]int(nil), i.List...)
	return i
}

func what(i Ins) string {
	s := ""
	for _, n := range slices.Concat([]int{i.Op, i.A, i.B, i.C, i.Raised}, i.Index, []int{-9}, i.List) {
		s += strconv.Itoa(n) + " "
	}
	return s
}

func text(l []uint32) string {
	s := ""
	for _, w := range l {
		s += strconv.FormatUint(uint64(w), 16) + " "
	}
	return s
}

// TestRead: what is no instruction, and what is no place.
func TestRead(t *testing.T) {
	call := words(raising(listed(indexed(ins(Call, 1, 0, 0), 5), 1, 2, 3, 4, 5), 7))
	changed := func(n int, w uint32) []uint32 {
		l := slices.Clone(call)
		l[n] = w
		return l
	}
	for i, c := range []struct {
		l  []uint32
		at int
		e  api.Errno
	}{
		{nil, 0, api.ErrRange}, {call, -1, api.ErrRange}, {call, len(call), api.ErrRange}, {call, 1 << 62, api.ErrRange}, {call, -1 << 63, api.ErrRange}, {call, 0, api.OK},
		{[]uint32{24}, 0, ErrWord}, {[]uint32{255}, 0, ErrWord}, {[]uint32{0x14, 0x18}, 1, ErrWord},
		{changed(0, 0x0205010b), 0, ErrWord}, {changed(0, 0x013d010b), 0, ErrWord}, {changed(0, 0x0100010b), 0, ErrWord}, {changed(1, 1<<31), 0, ErrWord}, {changed(2, 1<<31), 0, ErrWord}, {changed(2, 1<<31-1), 0, api.OK}, {changed(4, 0x00000105), 0, ErrWord}, {changed(4, 0x01000005), 0, ErrWord}, {changed(4, 0xff), 0, api.OK}, {call[:4], 0, ErrWord},
		{[]uint32{0x00010114}, 0, ErrWord}, {[]uint32{0x00000115}, 0, ErrWord}, {[]uint32{0x00000015}, 0, api.OK}, {[]uint32{0x01000001}, 0, ErrWord}, {[]uint32{0x00000112}, 0, ErrWord}, {[]uint32{0xffff0012}, 0, api.OK}, {[]uint32{0x00010104, 1}, 0, ErrWord}, {[]uint32{0x00020104, 0x0201}, 0, api.OK}, {[]uint32{0x0000010c, 3}, 0, api.OK}, {[]uint32{0x0100010c, 3}, 0, ErrWord}, {[]uint32{0x0100010c, 3, 4}, 0, api.OK},
	} {
		x, e := Read(c.l, c.at)
		if e != c.e || e != api.OK && !reflect.DeepEqual(x, Ins{}) {
			t.Errorf("%d: %v, error %d, not %d", i, x, e, c.e)
		}
	}
	for seed := range 3000 { // words by chance
		pick := sample.Source(uint64(seed))
		var l []uint32
		for range 1 + pick(6) {
			l = append(l, uint32(pick(26))|uint32(pick(4))<<8|uint32(pick(4))<<16|uint32(pick(3))<<24)
		}
		i, e := Read(l, 0)
		if e == api.OK && (!slices.Equal(words(i), l[:i.Length]) || i.At != 0) || e != api.OK && e != ErrWord {
			t.Errorf("%x: %v, error %d", l, i, e)
		}
		if e != api.OK && len(l) > 5 && layoutFits(l) {
			t.Errorf("%x is not read", l)
		}
	}
}

// layoutFits reports whether words begin with those of an instruction without a list.
func layoutFits(l []uint32) bool {
	op, a, b, c := Unpack(l[0])
	if op >= Ops || layouts()[op].least >= 0 {
		return false
	}
	i := Ins{Op: op, A: a, B: b, C: c, Raised: -1}
	for k := range layouts()[op].index {
		i.Index = append(i.Index, int(l[1+k]))
	}
	return wanted(i) == api.OK
}

func TestAll(t *testing.T) {
	for seed := range 300 {
		pick := sample.Source(uint64(seed))
		var l []Ins
		at := 0
		for range pick(9) {
			i := sound(pick(Ops), pick(9))
			i.At, i.Length = at, len(words(i))
			at += i.Length
			l = append(l, i)
		}
		got, n, e := All(joined(l...))
		if e != api.OK || n != 0 || len(got) != len(l) {
			t.Fatalf("seed %d: %v, word %d, error %d", seed, got, n, e)
		}
		for k := range l {
			if !reflect.DeepEqual(normal(got[k]), normal(l[k])) {
				t.Errorf("seed %d: %v, not %v", seed, got[k], l[k])
			}
		}
		got, n, e = All(append(joined(l...), 24, 0x14))
		if got != nil || n != at || e != ErrWord {
			t.Errorf("seed %d: %v, word %d, error %d", seed, got, n, e)
		}
	}
	if l, n, e := All(nil); len(l) != 0 || n != 0 || e != api.OK {
		t.Errorf("%v, word %d, error %d", l, n, e)
	}
}

// TestNext: where instructions lead.
func TestNext(t *testing.T) {
	at := func(i Ins, at, length int) Ins {
		i.At, i.Length = at, length
		return i
	}
	for i, c := range []struct {
		i    Ins
		want []int
	}{
		{at(giveBack, 3, 1), nil}, {at(raising(giveBack, 5), 3, 1), nil}, {at(ins(Raise, 0, 0, 0), 3, 1), nil}, {at(ins(Stuck, 0, 0, 0), 3, 1), nil}, {at(ins(Jump, 0, 7, 2), 3, 1), []int{519}}, {at(ins(Branch, 0, 7, 0), 3, 1), []int{4, 7}}, {at(ins(Branch, 0, 4, 0), 3, 1), []int{4}}, {at(ins(Branch, 0, 0, 1), 3, 1), []int{4, 256}},
		{at(ins(Move, 0, 0, 0), 3, 1), []int{4}}, {at(sound(Call, 2), 3, 3), []int{6}}, {at(raising(sound(Call, 2), 1), 3, 4), []int{7, 1}}, {at(raising(sound(Direct, 2), 7), 3, 4), []int{7}}, {at(raising(sound(Native, 2), 0), 3, 4), []int{7, 0}},
		{at(ins(99, 0, 0, 0), 3, 1), []int{4}}, {at(raising(ins(-1, 0, 0, 0), 9), 3, 1), []int{4, 9}}, {Ins{}, []int{0}},
	} {
		if got := Next(c.i); !slices.Equal(got, c.want) {
			t.Errorf("%d: %v, not %v", i, got, c.want)
		}
	}
}

// TestUses: which registers each operation reads and writes, by the table.
func TestUses(t *testing.T) {
	written := "const move box unbox tuple item text make stack get set call direct native spawn same fits arith"
	for op, x := range layouts() {
		i := sound(op, 5)
		var want []int
		writes := -1
		if slices.Contains(strings.Fields(written), x.name) {
			writes = i.A
		}
		for k, p := range []string{x.a, x.b, x.c} {
			if isRegister := p == "n" || p == "a" || p == "r"; isRegister && (k > 0 || writes < 0) {
				want = append(want, []int{i.A, i.B, i.C}[k])
			}
		}
		want = append(want, i.List...)
		if reads, w := Uses(i); !slices.Equal(reads, want) || w != writes {
			t.Errorf("%s: %v and %d, not %v and %d", x.name, reads, w, want, writes)
		}
	}
	with := ins(Move, 1, 2, 3)
	with.List = []int{7, 8}
	for i, c := range []struct {
		i      Ins
		reads  []int
		writes int
	}{{with, []int{2}, 1}, {ins(24, 1, 2, 3), nil, -1}, {ins(-1, 1, 2, 3), nil, -1}, {ins(Arith, 1, 2, 2), []int{2, 2}, 1}, {ins(Branch, 4, 2, 3), []int{4}, -1}, {ins(Return, 4, 2, 3), []int{4}, -1}, {listed(ins(Send, 4, 0, 0), 3, 1), []int{3, 1}, -1}, {listed(ins(Spawn, 4, 0, 0), 3, 3), []int{3, 3}, 4}} {
		if reads, w := Uses(c.i); !slices.Equal(reads, c.reads) || w != c.writes {
			t.Errorf("%d: %v and %d", i, reads, w)
		}
	}
}

func TestSafe(t *testing.T) {
	for op := -2; op < 30; op++ {
		want := op >= 0 && op < Ops && slices.Contains([]string{"text", "make", "stack", "call", "direct", "native", "spawn", "send"}, layouts()[op].name)
		if Safe(Ins{Op: op}) != want {
			t.Errorf("operation %d: %v", op, !want)
		}
	}
}
