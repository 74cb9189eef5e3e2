package meaning_test

import (
	"reflect"
	"slices"
	"strings"
	"testing"

	"hackamore/api"
	"hackamore/internal/pony"
	"hackamore/internal/sample"
	. "hackamore/meaning"
	"hackamore/world"
)

// TestStep: what becomes of a message.
func TestStep(t *testing.T) {
	p := pony.Program(text)
	change := func(entity, name string, f func(m *api.Method)) { p, _, _ = pony.With(p, entity, name, f) }
	change("main.Act", "fail", func(m *api.Method) { m.Body = fail() })
	p, i, _ := pony.With(p, "main.Act", "go", func(m *api.Method) {})
	more := func(kind int, name string, partial bool, body api.Expr) {
		p[i].Methods = append(p[i].Methods, api.Method{Kind: kind, Name: name, Partial: partial, Body: body})
	}
	p[i].Methods = slices.Clip(p[i].Methods)
	more(api.Be, "partial", true, fail())
	more(api.Be, "breaks", false, expr(api.OpBreak, ""))
	more(api.Be, "returns", false, expr(api.OpReturn, "", byte8("1")))
	more(api.Be, "print", false, no)
	more(api.New, "none", false, no)
	more(api.Be, "long", false, lit(strings.Repeat("x", 20001)+": String"))
	more(7, "odd", false, byte8("1"))
	for _, c := range []struct {
		to   int
		name string
		args []api.Value
		fuel int
		end  End
		used int
	}{
		{2, "go", []api.Value{u8(7)}, 100, End{Rest, -1, 0}, 4}, {2, "go", []api.Value{u8(7)}, 4, End{Rest, -1, 0}, 4}, {2, "go", []api.Value{u8(7)}, 3, End{Fuel, 2, api.ErrSteps}, 3}, {2, "go", []api.Value{u8(7)}, 1, End{Fuel, 2, api.ErrSteps}, 1}, {2, "create", []api.Value{u8(7)}, 100, End{Rest, -1, 0}, 4},
		{2, "go", nil, 100, End{Stuck, 2, api.ErrSize}, 1}, {2, "go", []api.Value{u8(7), u8(8)}, 100, End{Stuck, 2, api.ErrSize}, 1}, {2, "nope", nil, 100, End{Stuck, 2, world.ErrMethod}, 1}, {2, "mine", nil, 100, End{Stuck, 2, world.ErrMethod}, 1}, {2, "odd", nil, 100, End{Stuck, 2, world.ErrMethod}, 1}, {2, "", nil, 100, End{Stuck, 2, world.ErrMethod}, 1},
		{2, "fail", []api.Value{u8(7)}, 100, End{Stuck, 2, api.ErrState}, 2}, {2, "partial", nil, 100, End{Stuck, 2, api.ErrState}, 2}, {2, "breaks", nil, 100, End{Stuck, 2, api.ErrForm}, 2}, {2, "returns", nil, 100, End{Rest, -1, 0}, 3}, {2, "print", nil, 100, End{Stuck, 2, world.ErrMethod}, 1}, {2, "none", nil, 100, End{Stuck, 2, world.ErrMethod}, 1},
		{2, "long", nil, 100, End{Fuel, 2, api.ErrLarge}, 2}, {0, "print", []api.Value{obj(1)}, 100, End{Stuck, 0, api.ErrType}, 1}, {0, "print", nil, 100, End{Stuck, 0, api.ErrSize}, 1}, {0, "print", []api.Value{obj(2)}, 1, End{Rest, -1, 0}, 1},
	} {
		w := begun(t, p)
		w.Text(1, "printed")
		if e := w.Send(api.Message{From: 1, To: c.to, Name: c.name, Args: c.args}); e != api.OK {
			t.Fatal(e)
		}
		used, end, ok := Step(w, 0, c.fuel)
		if used != c.used || end != c.end || !ok {
			t.Errorf("%s of %v: used %d, %v, %v", c.name, c.args, used, end, ok)
		}
		s := w.State()
		if len(s.Actors[c.to].Mail) > 0 {
			t.Errorf("%s: the message was not taken", c.name)
		}
		if got := s.Actors[2].Fields[0]; c.end.Kind == Rest && len(c.args) > 0 && c.to == 2 && got.Lo != 7 {
			t.Errorf("%s: the field is %v", c.name, got)
		}
		if printed := len(s.Output) > 0; printed != (c.to == 0 && c.end.Kind == Rest) {
			t.Errorf("%s: %v", c.name, s.Output)
		}
	}
}

func TestStepChoices(t *testing.T) {
	if used, end, ok := Step(nil, 0, 10); used != 0 || end != (End{Stuck, -1, api.ErrArg}) || ok {
		t.Errorf("nil: %d, %v, %v", used, end, ok)
	}
	for choice, want := range map[int]int{0: 1, 1: 2, 2: 1, -1: 2, 77: 2} {
		w := begun(t, pony.Program(text))
		for _, fuel := range []int{10, 0, -1} {
			if used, end, ok := Step(w, choice, fuel); used != 0 || end != (End{Rest, -1, 0}) || ok {
				t.Errorf("without mail: %d, %v, %v", used, end, ok)
			}
		}
		w.Send(api.Message{From: -1, To: 1, Name: "nope"})
		w.Send(api.Message{From: -1, To: 2, Name: "nope"})
		ahead := w.State()
		for _, fuel := range []int{0, -7} {
			if used, end, ok := Step(w, choice, fuel); used != 0 || end != (End{Fuel, want, api.ErrSteps}) || !ok || !reflect.DeepEqual(w.State(), ahead) {
				t.Errorf("without fuel: %d, %v, %v", used, end, ok)
			}
		}
		if used, end, ok := Step(w, choice, 1<<40); used != 1 || end != (End{Stuck, want, world.ErrMethod}) || !ok {
			t.Errorf("%d: %d, %v, %v", choice, used, end, ok)
		}
	}
}

// TestRunErrors: the error of the beginning.
func TestRunErrors(t *testing.T) {
	p := pony.Program(text)
	for i, c := range []struct {
		p    []api.Entity
		args []string
		want api.Errno
	}{{nil, nil, world.ErrMethod}, {append(slices.Clone(p), p[0]), nil, api.ErrTwice}, {make([]api.Entity, 201), nil, api.ErrSize}, {p, make([]string, 65), api.ErrSize}} {
		if s, end := Run(c.p, c.args, nil, 100); end != (End{Stuck, -1, c.want}) || !reflect.DeepEqual(s, world.State{}) {
			t.Errorf("%d: %v", i, end)
		}
	}
}

// hello prints its arguments, and has two actors that print, too.
const hello = `
actor Other
  new create(out: Out, s: String) => out.print(s)
actor Main
  new create(env: Env) =>
    env.out.print("hi")
    for s: String in env.args.values() do env.out.print(s) end
    Other(env.out, "x")
    Other(env.out, "y")
`

func TestRun(t *testing.T) {
	p := pony.Program(strings.Replace(hello, "for s: String in env.args.values() do env.out.print(s) end", "try env.out.print(env.args.apply(1)?) end", 1))
	for _, c := range []struct {
		script []int
		want   string
	}{{nil, "hi b x y"}, {[]int{0, 0, 0, 1, 1}, "hi b y x"}, {[]int{9, -1, -1, -1, -1}, "hi b y x"}, {[]int{0, 1, 0, 0, 0, 0, 7, 7, 7}, "hi b x y"}} {
		s, end := Run(p, []string{"a", "b"}, c.script, api.MaxFuel)
		if got := strings.Join(s.Output, " "); got != c.want || end != (End{Rest, -1, 0}) || world.Check(s) != api.OK {
			t.Errorf("%v: %s, %v", c.script, got, end)
		}
	}
	want := []api.Send{{From: 1, To: 0, Name: "print", Args: []string{`"hi"#0`}}}
	s, end := Run(pony.Program("actor Main\n  new create(env: Env) => env.out.print(\"hi\")"), nil, nil, 100)
	if !reflect.DeepEqual(s.Trace, want) || !slices.Equal(s.Output, []string{"hi"}) || end.Kind != Rest {
		t.Errorf("%v %v %v", s.Trace, s.Output, end)
	}
	stuck := with(p, "main.Main", "create", local("nope"))
	if s, end := Run(stuck, nil, nil, 100); end != (End{Stuck, 1, api.ErrScope}) || len(s.Actors) != 2 || len(s.Actors[1].Mail) != 0 {
		t.Errorf("%v", end)
	}
}

// steps runs a program step by step.
func steps(t *testing.T, p []api.Entity, script func(n int) int, fuel int) (*world.World, End) {
	t.Helper()
	w, e := world.New(p, []string{"a", "b"})
	if e != api.OK {
		t.Fatal(e)
	}
	for n := 0; ; n++ {
		used, end, ok := Step(w, script(n), fuel)
		fuel -= used
		if !ok || end.Kind != Rest {
			return w, end
		}
	}
}

// TestFuel checks P18.2 of whole runs: with less fuel they end by fuel, or alike; Run is Steps.
func TestFuel(t *testing.T) {
	for i, s := range pony.Texts() {
		p := pony.Program(s)
		pick := sample.Source(uint64(i))
		var script []int
		for range pick(12) { // behind the script the first actor that has mail is chosen
			script = append(script, pick(9)-3)
		}
		choose := func(n int) int {
			if n < len(script) {
				return script[n]
			}
			return 0
		}
		full, end := Run(p, []string{"a", "b"}, script, api.MaxFuel)
		if end.Kind != Rest || end != (End{Rest, -1, 0}) {
			t.Fatalf("%d: %v", i, end)
		}
		for range 60 {
			fuel := pick(1500)
			got, e := Run(p, []string{"a", "b"}, script, fuel)
			if e == end && !reflect.DeepEqual(got, full) || e != end && (e.Kind != Fuel || e.Code != api.ErrSteps) {
				t.Fatalf("%d, with the fuel %d: %v", i, fuel, e)
			}
			w, f := steps(t, p, choose, fuel)
			if f != e || !reflect.DeepEqual(w.State(), got) {
				t.Fatalf("%d, with the fuel %d: steps end by %v, Run by %v", i, fuel, f, e)
			}
		}
	}
}

// TestScripts checks P18.3: scripts that choose the same actors have the same run; what stands behind the last message changes nothing.
func TestScripts(t *testing.T) {
	for i, s := range pony.Texts() {
		p := pony.Program(s)
		pick := sample.Source(uint64(i) + 100)
		w, _ := world.New(p, nil)
		var script, other []int
		for {
			n := len(w.Ready())
			if n == 0 {
				break
			}
			choice := pick(100)
			script, other = append(script, choice), append(other, choice%n-n*pick(3))
			if _, end, _ := Step(w, choice, api.MaxFuel); end.Kind != Rest {
				t.Fatal(end)
			}
		}
		a, _ := Run(p, nil, script, api.MaxFuel)
		b, _ := Run(p, nil, append(other, 3, 1, -4), api.MaxFuel)
		if !reflect.DeepEqual(a, b) || !reflect.DeepEqual(a, w.State()) {
			t.Errorf("%d: other runs", i)
		}
	}
}

// TestMessages checks P18.5: what a step changes, and P18.6 for programs of texts.
func TestMessages(t *testing.T) {
	for i, s := range pony.Texts() {
		p := pony.Program(s)
		for seed := range 5 {
			pick := sample.Source(uint64(seed))
			w, _ := world.New(p, nil)
			for {
				choice := pick(1000)
				actor, ok := w.Choose(choice)
				if !ok {
					break
				}
				checkStep(t, w, actor, choice)
				if a, b, race := w.Race(); race || t.Failed() {
					t.Fatalf("%d: a race of %v and %v: %s", i, a, b, w.Dump())
				}
			}
		}
	}
}

// checkStep does a step, and checks what it changed.
func checkStep(t *testing.T, w *world.World, actor, choice int) {
	t.Helper()
	ahead := w.State()
	_, end, ok := Step(w, choice, api.MaxFuel)
	now := w.State()
	if end.Kind != Rest || !ok {
		t.Fatalf("%v: %s", end, w.Dump())
	}
	for i, a := range ahead.Actors {
		b, mail := now.Actors[i], a.Mail
		if i == actor {
			mail = mail[1:]
		} else if !reflect.DeepEqual(a.Fields, b.Fields) {
			t.Errorf("a step of %d changed the actor %d", actor, i)
		}
		if len(b.Mail) < len(mail) || len(mail) > 0 && !reflect.DeepEqual(b.Mail[:len(mail)], mail) {
			t.Errorf("the mail of %d is not what it was, with more behind it", i)
		}
	}
	for _, x := range now.Trace[len(ahead.Trace):] {
		if x.From != actor {
			t.Errorf("a message from %d in a step of %d", x.From, actor)
		}
	}
	if e := world.Check(now); e != api.OK {
		t.Errorf("error %d", e)
	}
}
