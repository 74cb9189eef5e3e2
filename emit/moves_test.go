package emit_test

import (
	"maps"
	"slices"
	"testing"

	"hackamore/api"
	. "hackamore/emit"
	"hackamore/internal/sample"
)

// TestSequence checks P25.3.
func TestSequence(t *testing.T) {
	circles := 0
	for seed := range 6000 {
		pick := sample.Source(uint64(seed))
		n := 1 + pick(9)
		const free = 77
		var l []Move
		for _, to := range shuffled(n, pick)[:pick(n+1)] {
			l = append(l, Move{to, pick(n)})
		}
		if seed%3 == 0 { // all in circles
			l = nil
			for i, from := range shuffled(n, pick) {
				l = append(l, Move{i, from})
			}
		}
		ahead := slices.Clone(l)
		out, e := Sequence(l, free)
		if e != api.OK || len(out) > len(l)*3/2 || !slices.Equal(ahead, l) {
			t.Fatalf("seed %d: %v becomes %v, error %d", seed, l, out, e)
		}
		want, got := map[int]int{}, map[int]int{}
		for r := range n {
			want[r], got[r] = r, r
		}
		for _, m := range l {
			want[m.To] = m.From
		}
		for _, m := range out {
			if m.To == m.From || slices.Contains(l, Move{m.To, m.To}) {
				t.Errorf("seed %d: %v becomes %v", seed, l, out)
			}
			if m.To == free {
				circles++
			}
			got[m.To] = got[m.From]
		}
		delete(got, free)
		if !maps.Equal(want, got) {
			t.Fatalf("seed %d: %v becomes %v", seed, l, out)
		}
	}
	if circles < 1000 {
		t.Errorf("%d circles", circles)
	}
}

// shuffled returns the numbers below n in some order.
func shuffled(n int, pick func(int) int) []int {
	var l []int
	for i := range n {
		l = slices.Insert(l, pick(i+1), i)
	}
	return l
}

func TestSequenceErrors(t *testing.T) {
	for i, c := range []struct {
		l    []Move
		free int
		want []Move
		e    api.Errno
	}{
		{[]Move{{0, 1}, {1, 0}}, 2, []Move{{2, 0}, {0, 1}, {1, 2}}, api.OK}, {nil, 0, nil, api.OK}, {[]Move{{0, 0}, {5, 5}}, 2, nil, api.OK}, {[]Move{{1 << 62, 3}}, 2, []Move{{1 << 62, 3}}, api.OK},
		{nil, -1, nil, api.ErrArg}, {[]Move{{-1, 0}}, 2, nil, api.ErrArg}, {[]Move{{0, -1 << 63}}, 2, nil, api.ErrArg}, {[]Move{{2, 0}}, 2, nil, api.ErrArg}, {[]Move{{0, 2}}, 2, nil, api.ErrArg}, {[]Move{{2, 2}}, 2, nil, api.ErrArg},
		{[]Move{{0, 1}, {0, 1}}, 2, nil, api.ErrTwice}, {[]Move{{0, 0}, {0, 1}}, 2, nil, api.ErrTwice}, {[]Move{{0, 1}, {0, 1}, {2, 3}}, 2, nil, api.ErrArg},
	} {
		if got, e := Sequence(c.l, c.free); e != c.e || !slices.Equal(got, c.want) {
			t.Errorf("%d: %v, error %d, not %v, %d", i, got, e, c.want, c.e)
		}
	}
	var l []Move
	for i := range 100000 {
		l = append(l, Move{i, (i + 1) % 100000})
	}
	if out, e := Sequence(l, 1<<40); e != api.OK || len(out) != 100001 {
		t.Errorf("%d moves, error %d", len(out), e)
	}
}
