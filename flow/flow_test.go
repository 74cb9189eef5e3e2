package flow_test

import (
	"fmt"
	"reflect"
	"slices"
	"strings"
	"testing"

	"hackamore/api"
	. "hackamore/flow"
)

func x(op int, text string, kids ...api.Expr) api.Expr {
	return api.Expr{Op: op, Text: text, Kids: kids}
}

func local(name string) api.Expr               { return x(api.OpLocal, name) }
func consume(name string) api.Expr             { return x(api.OpConsume, name) }
func assign(name string, v api.Expr) api.Expr  { return x(api.OpAssign, name, v) }
func seq(l ...api.Expr) api.Expr               { return x(api.OpSeq, "", l...) }
func choose(c, a, b api.Expr) api.Expr         { return x(api.OpIf, "", c, a, b) }
func while(c, a, b api.Expr) api.Expr          { return x(api.OpWhile, "", c, a, b) }
func try(a, b, c api.Expr) api.Expr            { return x(api.OpTry, "", a, b, c) }
func match(l ...api.Expr) api.Expr             { return x(api.OpMatch, "", l...) }
func kase(name string, g, b api.Expr) api.Expr { return x(api.OpCase, name, g, b) }
func ret(l ...api.Expr) api.Expr               { return x(api.OpReturn, "", l...) }
func call(l ...api.Expr) api.Expr              { return x(api.OpCall, "m", l...) }
func get(name string) api.Expr                 { return x(api.OpGet, name, this) }
func set(name string, v api.Expr) api.Expr     { return x(api.OpSet, name, this, v) }

var (
	none  = api.Expr{}
	lit   = x(api.OpLit, "1")
	this  = x(api.OpThis, "")
	fail  = x(api.OpError, "")
	leave = x(api.OpBreak, "")
	next  = x(api.OpContinue, "")
)

func variable(name string, l ...api.Expr) api.Expr { return x(api.OpVar, name, l...) }
func let(name string, l ...api.Expr) api.Expr      { return x(api.OpLet, name, l...) }

// entity has the fields f, which is a let, and g, and one method with the parameter p.
func entity(kind int, partial bool, body api.Expr) api.Entity {
	m := api.Method{Kind: kind, Name: "m", Partial: partial, Params: []api.Param{{Name: "p"}}, Body: body}
	return api.Entity{Fields: []api.Field{{Name: "f", Let: true}, {Name: "g"}}, Methods: []api.Method{m}}
}

// told writes a report: faults as `unset 0.1`, then what else it tells.
func told(r Report) string {
	words := map[api.Errno]string{ErrUnset: "unset", ErrSet: "set", ErrField: "field", ErrLoop: "loop", ErrPartial: "partial", ErrDead: "dead"}
	var l []string
	for _, f := range r.Faults {
		s := words[f.Code]
		between := " "
		for _, n := range f.Path {
			s += between + fmt.Sprint(n)
			between = "."
		}
		l = append(l, s)
	}
	if r.Errors {
		l = append(l, "errors")
	}
	if r.Ends {
		l = append(l, "ends")
	}
	for _, name := range r.Fields {
		l = append(l, "has "+name)
	}
	return strings.Join(l, ", ")
}

func TestFunctions(t *testing.T) {
	for i, c := range []struct {
		body api.Expr
		want string
	}{
		{seq(variable("x"), choose(local("p"), assign("x", lit), none), local("x")), "unset 2, ends"}, {seq(variable("x"), choose(local("p"), assign("x", lit), assign("x", lit)), local("x")), "ends"}, {seq(let("x", lit), assign("x", lit)), "set 1, ends"}, {seq(ret(lit), lit), "dead 1, ends"},
		{seq(variable("x", lit), while(local("p"), consume("x"), none)), "unset 1.1, ends"}, {seq(let("x"), assign("x", lit), local("x")), "ends"}, {seq(let("x"), lit, assign("x", lit)), "unset 2, ends"}, {assign("p", lit), "set, ends"}, {local("y"), "unset, ends"}, {consume("y"), "unset, ends"}, {seq(assign("y", lit), local("y")), "ends"}, {assign("y", lit), "unset, ends"},
		{seq(consume("p"), local("p")), "unset 1, ends"}, {seq(consume("p"), assign("p", lit), lit), "set 1, ends"}, {seq(variable("x", lit), variable("x"), local("x")), "unset 2, ends"}, {while(local("p"), seq(let("x"), assign("x", lit), lit), none), "ends"}, {seq(let("x"), while(local("p"), seq(assign("x", lit), lit), none)), "set 1.1.0, ends"},
		{seq(variable("x"), while(seq(assign("x", lit), local("p")), lit, none), local("x")), "ends"}, {seq(variable("x"), while(local("p"), seq(assign("x", lit), lit), none), local("x")), "unset 2, ends"}, {seq(variable("x"), while(local("p"), seq(assign("x", lit), lit), seq(assign("x", lit), lit)), local("x")), "unset 2, ends"},
		{seq(variable("x"), while(local("p"), seq(assign("x", lit), leave), seq(assign("x", lit), lit)), local("x")), "ends"}, {seq(variable("x"), while(local("p"), seq(assign("x", lit), next), seq(assign("x", lit), lit)), local("x")), "unset 2, ends"}, {seq(variable("x"), while(local("p"), ret(lit), seq(assign("x", lit), lit)), local("x")), "ends"},
		{while(leave, lit, lit), "ends"}, {while(next, lit, lit), ""}, {while(local("p"), lit, leave), "loop 2, ends"}, {while(lit, while(lit, lit, leave), none), "ends"}, {while(lit, seq(while(lit, lit, next), lit), none), "ends"}, {leave, "loop"}, {next, "loop"}, {seq(leave, lit), "loop 0, dead 1"}, {seq(lit, fail, lit, local("y"), ret()), "partial 1, dead 2, errors"},
		{while(fail, local("y"), local("y")), "partial 0, errors"}, {choose(ret(), local("y"), local("y")), "ends"}, {match(ret(), kase("", none, local("y"))), "ends"}, {call(lit, ret(), local("y")), "ends"},
		{match(lit, kase("a", none, local("a")), kase("", local("a"), lit), kase("b", local("b"), seq(consume("b"), lit))), "unset 2.0, ends"}, {seq(match(lit, kase("a", none, lit)), local("a")), "unset 1, ends"}, {seq(match(lit, kase("a", none, lit)), assign("a", lit), lit), "set 1, ends"}, {match(lit, kase("a", none, seq(assign("a", lit), lit))), "set 1.1.0, ends"},
		{seq(variable("x"), match(lit, kase("", seq(assign("x", lit), lit), local("x")), kase("", none, local("x")))), "unset 1.2.1, ends"}, {seq(variable("x", lit), match(lit, kase("", consume("x"), lit)), local("x")), "unset 2, ends"}, {match(lit), "ends"}, {seq(variable("x"), match(lit, kase("", none, seq(assign("x", lit), lit))), local("x")), "unset 2, ends"},
		{try(fail, none, none), "ends"}, {try(seq(fail, lit), none, none), "dead 0.1, ends"}, {try(lit, fail, none), "ends"}, {try(fail, fail, none), "partial 1, errors"}, {try(lit, none, fail), "partial 2, errors"}, {try(try(lit, none, fail), none, none), "ends"}, {try(try(fail, fail, none), none, none), "ends"},
		{seq(variable("x"), try(seq(assign("x", lit), fail), none, none), local("x")), "ends"}, {seq(variable("x"), try(choose(local("p"), fail, assign("x", lit)), none, none), local("x")), "unset 2, ends"}, {seq(variable("x"), try(choose(local("p"), fail, assign("x", lit)), assign("x", lit), none), local("x")), "ends"},
		{seq(variable("x"), try(ret(), none, local("x"))), "unset 1.2, ends"}, {seq(variable("x"), try(choose(local("p"), ret(), assign("x", lit)), none, seq(assign("x", lit), lit)), local("x")), "ends"}, {seq(try(ret(), none, ret()), lit), "dead 1, ends"}, {while(lit, seq(try(leave, none, next), lit), none), "dead 1.1, ends"}, {while(lit, try(ret(), none, leave), none), "ends"},
		{while(lit, try(leave, none, seq(consume("p"), lit)), local("p")), "ends"}, {while(lit, try(next, none, seq(consume("p"), lit)), local("p")), "unset 1.2.0, unset 2, ends"}, {try(leave, none, local("y")), "loop 0"}, {seq(variable("x", lit), try(consume("x"), local("x"), local("x"))), "unset 1.2, ends"}, {seq(let("x"), try(assign("x", fail), assign("x", lit), none)), "unset 1.1, ends"},
		{set("f", lit), "set, ends"}, {set("g", lit), "ends"}, {set("h", lit), "ends"}, {get("f"), "ends"}, {this, "ends"}, {x(api.OpSet, "f", local("p"), lit), "ends"}, {x(api.OpGet, "f", local("y")), "unset 0, ends"},
		{x(api.OpRecover, "", seq(variable("x"), assign("x", lit))), "unset 0.1, ends"}, {seq(variable("x"), x(api.OpRecover, "", assign("x", lit)), lit), "ends"}, {x(api.OpTuple, "", local("y"), lit), "unset 0, ends"}, {x(api.OpIs, "", lit, consume("y")), "unset 1, ends"}, {x(api.OpItem, "0", lit), "ends"}, {x(api.OpUnit, "U"), "ends"}, {x(api.OpNew, "c", lit, local("y")), "unset 1, ends"},
		{seq(variable("x"), match(lit, kase("", assign("x", lit), lit)), lit), "unset 1.1.0, ends"}, {seq(variable("x"), match(lit, kase("", none, assign("x", lit))), lit), "ends"}, {seq(variable("x"), while(assign("x", lit), lit, none), lit), "unset 1.0, ends"}, {seq(variable("x"), while(lit, assign("x", lit), assign("x", lit)), lit), "ends"}, {seq(variable("x"), try(assign("x", lit), none, assign("x", lit)), lit), "ends"}, {seq(variable("x"), try(lit, none, assign("x", lit))), "ends"},
		{seq(variable("x"), ret(assign("x", lit))), "unset 1.0, ends"}, {seq(), "ends"}, {seq(variable("", lit), local("")), "ends"},
	} {
		r, e := Check(entity(api.Fun, false, c.body), 0, nil)
		if got := told(r); e != api.OK || got != c.want {
			t.Errorf("body %d: %s, error %d, want %s", i, got, e, c.want)
		}
	}
}

func TestPartial(t *testing.T) {
	at := func(path ...int) [][]int { return [][]int{path} }
	for i, c := range []struct {
		body    api.Expr
		marked  bool
		partial [][]int
		want    string
	}{
		{call(lit), false, nil, "ends"}, {call(lit), false, at(), "partial, errors, ends"}, {call(lit), true, at(), "errors, ends"}, {call(lit), true, nil, "partial, ends"}, {call(lit), true, at(0), "partial, ends"}, {call(lit), false, at(7, 7), "ends"}, {call(lit), false, at(-1), "ends"}, {lit, false, at(), "ends"},
		{x(api.OpNew, "c"), false, at(), "partial, errors, ends"}, {try(call(lit), none, none), false, at(0), "ends"}, {try(lit, call(lit), none), false, at(1), "ends"}, {try(fail, call(lit), none), false, at(1), "partial 1, errors, ends"}, {try(call(lit), none, none), true, at(0), "partial, ends"}, {try(call(lit), fail, none), true, at(0), "errors, ends"},
		{try(lit, none, call(lit)), true, at(2), "errors, ends"}, {seq(try(lit, call(lit), ret()), lit), true, at(0, 1), "partial, dead 1, ends"}, {try(call(lit), fail, ret()), false, at(0), "partial 1, ends"}, {try(call(lit), fail, ret()), true, at(0), "partial, ends"}, {fail, true, nil, "errors"}, {call(ret(), lit), true, at(), "partial, ends"},
		{seq(variable("x"), try(call(assign("x", lit)), none, none), local("x")), false, at(1, 0), "unset 1.0.0, ends"}, {seq(variable("x"), try(call(seq(assign("x", lit), lit)), none, none), local("x")), false, at(1, 0), "ends"}, {seq(variable("x"), try(seq(call(lit), assign("x", lit)), none, none), local("x")), false, at(1, 0, 0), "unset 2, ends"},
		{while(call(lit), call(lit), call(lit)), true, [][]int{{1}, {1}}, "errors, ends"}, {while(call(lit), call(lit), call(lit)), false, [][]int{{2}, {1}, {0}}, "partial 0, partial 1, partial 2, errors, ends"}, {try(fail, call(fail), none), true, at(1), "errors"},
	} {
		r, e := Check(entity(api.Fun, c.marked, c.body), 0, c.partial)
		if got := told(r); e != api.OK || got != c.want {
			t.Errorf("body %d: %s, error %d, want %s", i, got, e, c.want)
		}
	}
}

func TestConstructors(t *testing.T) {
	both := func(l ...api.Expr) api.Expr { return seq(append([]api.Expr{set("f", lit), set("g", lit)}, l...)...) }
	for i, c := range []struct {
		body api.Expr
		want string
	}{
		{lit, "field, ends"}, {both(), "ends, has f, has g"}, {both(this), "ends, has f, has g"}, {set("f", lit), "field, ends, has f"}, {both(set("g", lit)), "ends, has f, has g"}, {both(set("f", lit)), "set 2, ends, has f, has g"}, {seq(this, both()), "field 0, ends, has f, has g"}, {this, "field, ends"}, {get("f"), "unset, field, ends"}, {get("h"), "field, ends"},
		{seq(set("f", this), set("g", lit)), "field 0.1, ends, has f, has g"}, {seq(set("f", get("g")), set("g", lit)), "unset 0.1, ends, has f, has g"}, {seq(set("f", lit), set("g", get("f"))), "ends, has f, has g"}, {call(set("f", lit), set("g", lit)), "unset 0, unset 1, ends, has f, has g"}, {call(both()), "unset 0.1, ends, has f, has g"},
		{seq(set("g", lit), choose(lit, set("f", lit), none)), "field, ends, has g"}, {seq(set("g", lit), choose(lit, set("f", lit), set("f", lit))), "ends, has f, has g"}, {seq(set("g", lit), choose(lit, set("f", lit), none), set("f", lit)), "set 2, ends, has f, has g"}, {seq(set("g", lit), choose(lit, ret(), none), set("f", lit)), "field 1.1, ends, has g"}, {both(ret(this)), "ends, has f, has g"}, {fail, "partial, errors"},
		{seq(set("g", lit), while(lit, set("f", lit), none)), "field, set 1.1, ends, has g"}, {while(lit, set("g", lit), none), "field, ends"}, {seq(set("g", lit), while(lit, seq(set("f", lit), leave), set("f", lit))), "ends, has f, has g"}, {ret(this), "field, field 0, ends"}, {both(call(this)), "ends, has f, has g"}, {call(both(), this), "unset 0.1, ends, has f, has g"}, {seq(ret(set("f", lit)), both()), "field 0, dead 1, ends, has f"},
		{x(api.OpSet, "f", local("p"), lit), "field, ends"}, {x(api.OpGet, "f", seq(this)), "field, field 0.0, ends"}, {x(api.OpSet, "f", lit, this), "field, field 1, ends"}, {both(try(fail, none, get("f"))), "ends, has f, has g"}, {try(seq(set("f", lit), ret()), none, seq(set("g", lit))), "field 0.1, ends, has f, has g"}, {let("x", set("f", lit)), "field, unset 0, ends, has f"}, {seq(set("h", lit), lit), "field, ends"},
	} {
		r, e := Check(entity(api.New, false, c.body), 0, nil)
		if got := told(r); e != api.OK || got != c.want {
			t.Errorf("body %d: %s, error %d, want %s", i, got, e, c.want)
		}
	}
	// Of two fields with one name the first one counts, and is told once; what is no field is none.
	e := entity(api.New, false, seq(set("f", lit), set("g", lit), set("f", lit)))
	e.Fields = append(e.Fields, api.Field{Name: "f"}, api.Field{Name: "g", Let: true})
	if r, _ := Check(e, 0, nil); told(r) != "set 2, ends, has f, has g" {
		t.Errorf("two fields with one name: %s", told(r))
	}
	e.Fields = nil
	if r, _ := Check(e, 0, nil); told(r) != "ends" {
		t.Errorf("no fields: %s", told(r))
	}
	for kind, want := range map[int]string{api.Be: "set 1, ends", api.Fun: "set 1, unset 2, ends", 9: "set 1, ends"} {
		body := seq(variable("x"), set("f", lit), assign("x", lit))
		if r, _ := Check(entity(kind, false, body), 0, nil); told(r) != want {
			t.Errorf("a method of the kind %d: %s, want %s", kind, told(r), want)
		}
	}
	// The value of a behaviour's body, and of what it returns, is not used.
	if r, _ := Check(entity(api.Be, false, seq(variable("x"), choose(lit, ret(assign("x", lit)), assign("x", lit)))), 0, nil); told(r) != "ends" {
		t.Errorf("a behaviour: %s", told(r))
	}
}

// TestForms: wrong expressions, which all functions refuse, and wrong methods.
func TestForms(t *testing.T) {
	wide := seq(slices.Repeat([]api.Expr{lit}, api.MaxNodes)...)
	deep := lit
	for range api.MaxTree {
		deep = seq(deep)
	}
	odd := api.Expr{Types: []api.Type{{}}}
	for i, c := range []struct {
		body api.Expr
		want api.Errno
	}{
		{wide, api.ErrSize}, {seq(wide.Kids[1:]...), api.OK}, {deep, api.ErrSize}, {deep.Kids[0], api.OK}, {seq(api.Expr{Op: 99}, deep), api.ErrSize},
		{x(27, ""), api.ErrForm}, {x(-1, ""), api.ErrForm}, {x(0, "x"), api.ErrForm}, {odd, api.ErrForm}, {x(0, "", lit), api.ErrForm}, {seq(none), api.ErrForm}, {seq(lit, odd), api.ErrForm},
		{choose(lit, lit, none), api.OK}, {choose(none, lit, lit), api.ErrForm}, {choose(lit, none, lit), api.ErrForm}, {choose(lit, lit, odd), api.ErrForm}, {x(api.OpIf, "", lit, lit), api.ErrForm}, {while(lit, lit, none), api.OK}, {while(lit, none, lit), api.ErrForm}, {x(api.OpWhile, "", lit, lit), api.ErrForm},
		{try(lit, none, none), api.OK}, {try(none, lit, lit), api.ErrForm}, {x(api.OpTry, "", lit), api.ErrForm}, {match(lit, kase("", none, lit)), api.OK}, {match(lit, kase("", lit, none)), api.ErrForm}, {match(), api.ErrForm}, {match(lit), api.OK}, {match(none), api.ErrForm}, {match(lit, lit), api.ErrForm}, {match(kase("", none, lit)), api.ErrForm}, {match(lit, x(api.OpCase, "", lit)), api.ErrForm},
		{kase("", none, lit), api.ErrForm}, {seq(kase("", none, lit)), api.ErrForm}, {match(lit, kase("", kase("", none, lit), lit)), api.ErrForm}, {x(api.OpLit, "", lit), api.ErrForm}, {x(api.OpLocal, "a", lit), api.ErrForm}, {x(api.OpThis, "", lit), api.ErrForm}, {x(api.OpGet, "a"), api.ErrForm}, {x(api.OpGet, "a", lit, lit), api.ErrForm}, {x(api.OpSet, "a", lit), api.ErrForm}, {x(api.OpSet, "a", none, lit), api.ErrForm},
		{let("a"), api.OK}, {let("a", lit), api.OK}, {let("a", lit, lit), api.ErrForm}, {let("a", none), api.ErrForm}, {variable("a", lit, lit), api.ErrForm}, {x(api.OpAssign, "a"), api.ErrForm}, {x(api.OpConsume, "a", lit), api.ErrForm}, {x(api.OpError, "", lit), api.ErrForm}, {ret(), api.OK}, {ret(lit), api.OK}, {ret(lit, lit), api.ErrForm}, {x(api.OpBreak, "", lit), api.ErrForm}, {x(api.OpContinue, "", lit), api.ErrForm},
		{call(), api.ErrForm}, {call(lit, lit, lit), api.OK}, {x(api.OpNew, "c"), api.OK}, {x(api.OpNew, "c", lit, none), api.ErrForm}, {x(api.OpRecover, ""), api.ErrForm}, {x(api.OpRecover, "", lit, lit), api.ErrForm}, {x(api.OpTuple, ""), api.OK}, {x(api.OpTuple, "", lit), api.OK}, {x(api.OpItem, ""), api.ErrForm}, {x(api.OpIs, "", lit), api.ErrForm}, {x(api.OpUnit, "", lit), api.ErrForm},
	} {
		r, e := Check(entity(api.Fun, true, c.body), 0, make([][]int, api.MaxNodes))
		l, f := Locals(c.body)
		m, g := Free(c.body)
		v, h := Valued(c.body, nil, nil)
		if e != c.want || f != c.want || g != c.want || h != c.want || c.want != api.OK && (!reflect.DeepEqual(r, Report{}) || len(l)+len(m)+len(v) > 0) {
			t.Errorf("body %d: errors %d, %d, %d, %d, want %d", i, e, f, g, h, c.want)
		}
	}
	for i, c := range []struct {
		e       api.Entity
		method  int
		partial int
		want    api.Errno
	}{
		{api.Entity{}, 0, 0, api.ErrNone}, {entity(api.Fun, true, lit), 1, 0, api.ErrNone}, {entity(api.Fun, true, x(99, "")), -1, api.MaxNodes + 1, api.ErrNone}, {entity(api.New, true, none), 0, api.MaxNodes + 1, api.OK}, {entity(api.New, true, x(99, "")), 0, api.MaxNodes + 1, api.ErrForm}, {entity(api.New, true, lit), 0, api.MaxNodes + 1, api.ErrSize},
	} {
		if r, e := Check(c.e, c.method, make([][]int, c.partial)); e != c.want || !reflect.DeepEqual(r, Report{}) {
			t.Errorf("Check %d: %v, error %d, want %d", i, r, e, c.want)
		}
	}
	for _, f := range []func(api.Expr) ([]string, api.Errno){Locals, Free, func(x api.Expr) ([]string, api.Errno) { return Valued(x, nil, nil) }} {
		if l, e := f(none); e != api.ErrForm || len(l) > 0 {
			t.Errorf("of none: %v, error %d", l, e)
		}
	}
}

func TestNames(t *testing.T) {
	body := seq(variable("b", local("c")), let("a"), variable("b"), match(local("a"), kase("", none, consume("z")), kase("d", local("d"), assign("q", local("c")))), set("f", get("g")), call(lit))
	if l, e := Locals(body); e != api.OK || !slices.Equal(l, []string{"b", "a", "d"}) {
		t.Errorf("Locals: %v, error %d", l, e)
	}
	if l, e := Free(body); e != api.OK || !slices.Equal(l, []string{"c", "q", "z"}) {
		t.Errorf("Free: %v, error %d", l, e)
	}
	for i, c := range []struct {
		path []int
		want api.Errno
	}{{nil, api.OK}, {[]int{3, 2, 1, 0}, api.OK}, {[]int{3, 1, 0}, api.OK}, {[]int{6}, api.ErrNone}, {[]int{-1}, api.ErrNone}, {[]int{0, 0, 0}, api.ErrNone}} {
		at := body
		for _, k := range c.path {
			if c.want == api.OK {
				at = at.Kids[k]
			}
		}
		if got, e := At(body, c.path); e != c.want || e == api.OK && !reflect.DeepEqual(got, at) || e != api.OK && !reflect.DeepEqual(got, none) {
			t.Errorf("At %d: %v, error %d, want %d", i, got, e, c.want)
		}
	}
	if got, e := At(x(-5, "x", x(77, "y")), []int{0}); e != api.OK || got.Op != 77 {
		t.Errorf("At of what is wrong: %v, error %d", got, e)
	}
}

func TestValued(t *testing.T) {
	body := seq(variable("a", local("p")), while(local("p"), seq(variable("b", lit), choose(lit, consume("a"), leave)), local("q")), local("a"), ret(), lit, match(lit, kase("c", none, none)))
	body.Kids[5] = lit
	for i, c := range []struct {
		path string
		want string
		code api.Errno
	}{
		{"", "p q", api.OK}, {"0", "p q", api.OK}, {"1", "a p q", api.OK}, {"10", "p q", api.OK}, {"11", "p q", api.OK}, {"111", "b p q", api.OK}, {"1110", "b p q", api.OK}, {"12", "p q", api.OK}, {"2", "p q", api.OK}, {"3", "p q", api.OK}, {"4", "", ErrDead}, {"5", "", ErrDead}, {"9", "", api.ErrNone},
	} {
		var path []int
		for _, d := range c.path {
			path = append(path, int(d-'0'))
		}
		if l, e := Valued(body, []string{"q", "p", "q"}, path); e != c.code || strings.Join(l, " ") != c.want {
			t.Errorf("Valued %d: %v, error %d, want %s, error %d", i, l, e, c.want, c.code)
		}
	}
	cases := match(lit, kase("c", local("c"), lit), kase("d", none, lit))
	for path, want := range map[string]string{"0": "", "1": "", "10": "c", "11": "c", "2": "", "21": "d"} {
		var at []int
		for _, d := range path {
			at = append(at, int(d-'0'))
		}
		if l, e := Valued(cases, nil, at); e != api.OK || strings.Join(l, " ") != want {
			t.Errorf("Valued of cases at %s: %v, error %d, want %s", path, l, e, want)
		}
	}
	if _, e := Valued(cases, nil, []int{2, 0}); e != api.ErrNone {
		t.Errorf("Valued of none: error %d", e)
	}
	if l, e := Valued(set("f", lit), nil, []int{0}); e != api.OK || len(l) > 0 {
		t.Errorf("Valued of this: %v, error %d", l, e)
	}
	if _, e := Valued(while(lit, seq(call(lit), fail), none), nil, []int{2}); e != api.ErrNone {
		t.Errorf("Valued of what is none: error %d", e)
	}
	if l, e := Valued(try(call(lit), local("x"), lit), []string{"x"}, []int{1}); e != ErrDead || len(l) > 0 {
		t.Errorf("no call may end with an error: %v, error %d", l, e)
	}
}

// TestDeep has loops in loops, and parts of OpTry in parts of OpTry, as deep as may be.
func TestDeep(t *testing.T) {
	loops, parts := lit, lit
	for range api.MaxTree - 2 {
		loops = while(lit, loops, none)
	}
	for range api.MaxTree - 5 {
		parts = try(choose(lit, choose(lit, leave, next), choose(lit, fail, ret())), fail, parts)
	}
	if r, e := Check(entity(api.Fun, false, loops), 0, nil); e != api.OK || told(r) != "ends" {
		t.Errorf("loops: %s, error %d", told(r), e)
	}
	if r, e := Check(entity(api.Fun, true, while(lit, parts, none)), 0, nil); e != api.OK || told(r) != "errors, ends" {
		t.Errorf("parts: %s, error %d", told(r), e)
	}
}
