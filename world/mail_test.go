package world_test

import (
	"fmt"
	"math"
	"slices"
	"strings"
	"testing"

	"hackamore/api"
	"hackamore/internal/sample"
	. "hackamore/world"
)

// withActors returns a world with the actors 0 and 1, and more of main.Act.
func withActors(t *testing.T, n int) *World {
	w := begun(t, cells())
	if _, e := w.Take(1); e != api.OK {
		t.Fatal(e)
	}
	for range n {
		must(t)(w.Spawn("main.Act"))
	}
	return w
}

func TestChoose(t *testing.T) {
	w := withActors(t, 10)
	if n, ok := w.Choose(5); n != 0 || ok || len(w.Ready()) > 0 {
		t.Errorf("%d is chosen, where none has mail", n)
	}
	for _, to := range []int{9, 2, 5, 2} {
		if e := w.Send(api.Message{From: -1, To: to, Name: "x"}); e != api.OK {
			t.Fatal(e)
		}
	}
	if l := w.Ready(); !slices.Equal(l, []int{2, 5, 9}) {
		t.Errorf("ready: %v", l)
	}
	for choice, want := range map[int]int{0: 2, 1: 5, 2: 9, 3: 2, -1: 9, -2: 5, -3: 2, -4: 9, 300: 2, math.MaxInt: []int{2, 5, 9}[math.MaxInt%3], math.MinInt: []int{2, 5, 9}[(math.MinInt%3+3)%3]} {
		if n, ok := w.Choose(choice); n != want || !ok {
			t.Errorf("%d chooses %d", choice, n)
		}
	}
}

func TestTake(t *testing.T) {
	w := begun(t, cells(), "a")
	for _, actor := range []int{-1, 0, 2, math.MaxInt, math.MinInt} {
		if m, e := w.Take(actor); e != api.ErrNone || !alike(m, api.Message{}) {
			t.Errorf("%d: %v, error %d", actor, m, e)
		}
	}
	m, e := w.Take(1)
	if e != api.OK || !alike(m, api.Message{From: -1, To: 1, Name: "create", Args: []api.Value{obj(2)}}) {
		t.Errorf("%v, error %d", m, e)
	}
	if _, e := w.Take(1); e != api.ErrNone || len(w.Ready()) > 0 {
		t.Errorf("error %d", e)
	}
	right(t, w)
}

// deepChain makes objects, each the next of another one, and returns the outermost one.
func deepChain(t *testing.T, w *World, n int) api.Value {
	t.Helper()
	var last api.Value
	for i := range n {
		c := must(t)(w.Make(1, "main.Cell"))
		must(t)(w.Set(c, "v", u8(1)))
		if i > 0 {
			must(t)(w.Set(c, "next", last))
		}
		last = c
	}
	return last
}

func TestSend(t *testing.T) {
	w := withActors(t, 2)
	gone := must(t)(w.Spawn("main.Act"))
	if e := w.Remove(int(gone.Lo)); e != api.OK {
		t.Fatal(e)
	}
	deep := deepChain(t, w, 102)
	large := must(t)(w.Text(1, strings.Repeat("x", api.MaxSource)))
	cell := must(t)(w.Make(2, "main.Cell"))
	good := []api.Value{u8(7), cell, tuple(cell, unit("None"))}
	long := strings.Repeat("n", api.MaxName)
	for i, c := range []struct {
		m    api.Message
		want api.Errno
	}{
		{api.Message{From: 1, To: 2, Name: "go", Args: good}, api.OK}, {api.Message{From: -1, To: 0, Name: ""}, api.OK}, {api.Message{From: 4, To: 3, Name: long}, api.OK},
		{api.Message{From: 1, To: -1, Name: long + "x"}, api.ErrNone}, {api.Message{From: 1, To: 4}, api.ErrNone}, {api.Message{From: 1, To: 5}, api.ErrNone}, {api.Message{From: -2, To: 1, Name: long + "x"}, api.ErrNone}, {api.Message{From: 5, To: 1}, api.ErrNone},
		{api.Message{From: 1, To: 2, Name: long + "x", Args: []api.Value{{}}}, api.ErrSize}, {api.Message{From: 1, To: 2, Args: []api.Value{deep, {}}}, ErrBroken}, {api.Message{From: 1, To: 2, Args: []api.Value{obj(-1)}}, ErrBroken},
		{api.Message{From: 1, To: 2, Args: []api.Value{act(4)}}, ErrBroken}, {api.Message{From: 1, To: 2, Args: []api.Value{cell, deep, large}}, api.ErrDepth}, {api.Message{From: 1, To: 2, Args: []api.Value{cell, large, deep}}, api.ErrLarge},
	} {
		ahead := w.State()
		if e := w.Send(c.m); e != c.want {
			t.Errorf("%d: error %d", i, e)
		}
		if c.want != api.OK {
			unchanged(t, w, ahead)
			continue
		}
		now := w.State()
		mail := now.Actors[c.m.To].Mail
		if len(now.Trace) != len(ahead.Trace)+1 || !alike(mail[len(mail)-1], c.m) {
			t.Errorf("%d: %v", i, mail)
		}
	}
	want := []api.Send{{From: 1, To: 2, Name: "go", Args: []string{"U8 7", "main.Cell#0{v=none, next=none}", "(main.Cell#0{v=none, next=none}, None)"}}, {From: -1, To: 0}, {From: 4, To: 3, Name: long}}
	if got := w.State().Trace; !alike(got, want) {
		t.Errorf("%+v", got)
	}
	right(t, w)
}

func TestSendFull(t *testing.T) {
	w := withActors(t, 1)
	for i := range api.MaxMail {
		if e := w.Send(api.Message{From: -1, To: i % 3, Name: "x"}); e != api.OK {
			t.Fatalf("%d: error %d", i, e)
		}
	}
	ahead := w.State()
	if e := w.Send(api.Message{From: -1, To: 1, Name: "x"}); e != api.ErrFull {
		t.Errorf("error %d", e)
	}
	if e := w.Send(api.Message{From: -1, To: 1, Name: "x", Args: []api.Value{{}}}); e != ErrBroken {
		t.Errorf("error %d", e)
	}
	unchanged(t, w, ahead)
	if _, e := w.Take(2); e != api.OK {
		t.Error(e)
	}
	if e := w.Send(api.Message{From: -1, To: 1, Name: "x"}); e != api.OK {
		t.Errorf("error %d", e)
	}
	ahead = State{Program: cells(), Actors: []Actor{{Type: "Out"}}, Trace: make([]api.Send, api.MaxFuel-1)}
	w = loaded(t, ahead)
	for _, want := range []api.Errno{api.OK, api.ErrFull} {
		if e := w.Send(api.Message{From: -1, Name: "x"}); e != want {
			t.Errorf("error %d, not %d", e, want)
		}
	}
	right(t, w)
}

func TestSpawn(t *testing.T) {
	w := begun(t, append(cells(), api.Entity{Kind: api.Actor}))
	for _, typ := range []string{"Env", "None", "Any", "Nope", "main", ""} {
		if v, e := w.Spawn(typ); e != ErrMethod || !alike(v, api.Value{}) {
			t.Errorf("%q: %v, error %d", typ, v, e)
		}
	}
	for i := 2; i < api.MaxActors; i++ {
		if v, e := w.Spawn("main.Act"); e != api.OK || !alike(v, act(i)) {
			t.Fatalf("%d: %v, error %d", i, v, e)
		}
	}
	if a := w.State().Actors[63]; !alike(a, Actor{Type: "main.Act", Fields: make([]api.Value, 2)}) {
		t.Errorf("%+v", a)
	}
	if v, e := w.Spawn("main.Act"); e != api.ErrFull || !alike(v, api.Value{}) {
		t.Errorf("%v, error %d", v, e)
	}
	if _, e := w.Spawn("Nope"); e != ErrMethod {
		t.Errorf("error %d", e)
	}
	if e := w.Remove(5); e != api.OK {
		t.Error(e)
	}
	if _, e := w.Spawn("main.Act"); e != api.ErrFull {
		t.Errorf("one that was taken away counts: error %d", e)
	}
	right(t, w)
}

// TestOrder checks P17.3: messages from one actor to another one are taken in order; the Trace only grows.
func TestOrder(t *testing.T) {
	pick := sample.Source(1)
	w := withActors(t, 3)
	sent, taken := map[[2]int]int{}, map[[2]int]int{}
	var trace []api.Send
	left := 0
	for step := range 3000 {
		from, to := pick(6)-1, pick(5)
		if pick(2) == 0 {
			key := [2]int{from, to}
			if e := w.Send(api.Message{From: from, To: to, Name: "n", Args: []api.Value{index(uint64(sent[key]))}}); e != api.OK {
				t.Fatal(e)
			}
			sent[key]++
			left++
		} else if actor, ok := w.Choose(pick(100)); ok {
			m, e := w.Take(actor)
			key := [2]int{m.From, m.To}
			if e != api.OK || m.To != actor || m.Args[0].Lo != uint64(taken[key]) {
				t.Fatalf("%v, error %d, not the number %d", m, e, taken[key])
			}
			taken[key]++
			left--
		}
		if step%100 > 0 {
			continue
		}
		now := w.State().Trace
		if len(now) < len(trace) || !alike(now[:len(trace)], trace) {
			t.Fatal("the trace does not only grow")
		}
		trace = now
	}
	for ; left > 0; left-- {
		actor, _ := w.Choose(left)
		m, _ := w.Take(actor)
		taken[[2]int{m.From, m.To}]++
	}
	if len(w.Ready()) > 0 || fmt.Sprint(sent) != fmt.Sprint(taken) {
		t.Errorf("sent %v, taken %v", sent, taken)
	}
}
