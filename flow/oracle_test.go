package flow_test

import (
	"fmt"
	"maps"
	"reflect"
	"slices"
	"testing"

	"hackamore/api"
	. "hackamore/flow"
	"hackamore/internal/sample"
)

// The variables of bodies by chance: locals, and then fields.
var (
	locals = []string{"p", "a", "b", "c"}
	fields = []string{"f", "g"}
)

// bodies makes bodies by chance.
type bodies struct{ pick func(int) int }

func (m bodies) local() string { return locals[m.pick(len(locals))] }

func (m bodies) maybe(depth int) api.Expr {
	if m.pick(2) == 0 {
		return none
	}
	return m.body(depth)
}

func (m bodies) body(depth int) api.Expr {
	if depth <= 0 {
		leaves := []api.Expr{lit, local(m.local()), local(m.local()), consume(m.local()), this, fail, leave, next, ret(), let(m.local()), variable(m.local()), get(fields[m.pick(2)]), call(lit), lit}
		return leaves[m.pick(len(leaves))]
	}
	d := depth - 1
	switch m.pick(14) {
	case 0, 1, 2:
		var l []api.Expr
		for range 1 + m.pick(4) {
			l = append(l, m.body(d))
		}
		return seq(l...)
	case 3:
		return choose(m.body(d-1), m.body(d), m.maybe(d))
	case 4:
		return while(m.body(d-1), m.body(d), m.maybe(d))
	case 5:
		return try(m.body(d), m.maybe(d), m.maybe(d))
	case 6:
		l := []api.Expr{m.body(d - 1)}
		for range m.pick(3) {
			name := ""
			if m.pick(2) == 0 {
				name = m.local()
			}
			l = append(l, kase(name, m.maybe(d-1), m.body(d)))
		}
		return match(l...)
	case 7:
		return let(m.local(), m.body(d-1))
	case 8:
		return assign(m.local(), m.body(d-1))
	case 9:
		return set(fields[m.pick(2)], m.body(d-1))
	case 10:
		return variable(m.local(), m.body(d-1))
	case 11:
		return call(m.body(d), m.body(d-1))
	case 12:
		return x(api.OpRecover, "", m.body(d))
	}
	return m.body(0)
}

// point is what is there at one moment of a run: the variables that have a value, and those that were assigned, as bits.
type point struct{ value, assigned uint }

type points map[point]bool

func unite(l ...points) points {
	out := points{}
	for _, p := range l {
		maps.Copy(out, p)
	}
	return out
}

func (p points) each(f func(point) point) points {
	out := points{}
	for s := range p {
		out[f(s)] = true
	}
	return out
}

// left has all moments in which an expression is left, by what leaves it.
type left struct{ end, errors, returns, breaks, continues points }

func (a left) and(b left) left {
	return left{b.end, unite(a.errors, b.errors), unite(a.returns, b.returns), unite(a.breaks, b.breaks), unite(a.continues, b.continues)}
}

// oracle follows all runs at once, moment by moment.
type oracle struct {
	isNew, marked bool
	partial       map[string]bool
	lets          map[string]bool
	faults        map[string]Fault
	ahead         map[string]points
}

// place is where an expression stands.
type place struct {
	path                 []int
	used, caught, looped bool
	result               bool
}

func (at place) kid(i int) place {
	at.path = append(slices.Clip(at.path), i)
	at.used = true
	return at
}

func bit(list []string, name string, from int) uint { return 1 << (slices.Index(list, name) + from) }

func localBit(name string) uint { return bit(locals, name, 0) }
func fieldBit(name string) uint { return bit(fields, name, len(locals)) }

func (o *oracle) fault(at place, code api.Errno) {
	o.faults[fmt.Sprint(at.path, code)] = Fault{code, at.path}
}

func (o *oracle) check(at place, code api.Errno, p points, isWrong func(point) bool) {
	for s := range p {
		if isWrong(s) {
			o.fault(at, code)
		}
	}
}

const allFields = 3 << 4

// run follows an expression from moments ahead of it.
func (o *oracle) run(e api.Expr, at place, p points) left {
	if len(p) == 0 {
		return left{}
	}
	key := fmt.Sprint(at.path)
	o.ahead[key] = unite(o.ahead[key], p)
	setBit := func(b uint) func(point) point {
		return func(s point) point { return point{s.value | b, s.assigned | b} }
	}
	switch e.Op {
	case api.OpLocal, api.OpConsume:
		b := localBit(e.Text)
		o.check(at, ErrUnset, p, func(s point) bool { return s.value&b == 0 })
		if e.Op == api.OpConsume {
			p = p.each(func(s point) point { return point{s.value &^ b, s.assigned} })
		}
		return left{end: p}
	case api.OpThis:
		o.check(at, ErrField, p, func(s point) bool { return o.isNew && s.value&allFields != allFields })
		return left{end: p}
	case api.OpGet, api.OpSet:
		return o.field(e, at, p, setBit(fieldBit(e.Text)))
	case api.OpVar, api.OpLet:
		w, b := o.kids(e, at, p), localBit(e.Text)
		w.end = w.end.each(setBit(b))
		if len(e.Kids) == 0 {
			w.end = p.each(func(s point) point { return point{s.value &^ b, s.assigned &^ b} })
		}
		return w
	case api.OpAssign:
		w, b := o.kids(e, at, p), localBit(e.Text)
		o.check(at, ErrUnset, w.end, func(s point) bool { return at.used && s.value&b == 0 })
		o.check(at, ErrSet, w.end, func(s point) bool { return o.lets[e.Text] && s.assigned&b != 0 })
		w.end = w.end.each(setBit(b))
		return w
	case api.OpError:
		return o.fail(at, left{}, p)
	case api.OpCall:
		w := o.kids(e, at, p)
		if o.partial[key] {
			w = o.fail(at, w, w.end)
		}
		return w
	case api.OpReturn:
		w := o.kids(e, at, p)
		o.check(at, ErrField, w.end, func(s point) bool { return o.isNew && s.value&allFields != allFields })
		w.returns, w.end = unite(w.returns, w.end), nil
		return w
	case api.OpBreak, api.OpContinue:
		switch {
		case !at.looped:
			o.fault(at, ErrLoop)
			return left{}
		case e.Op == api.OpBreak:
			return left{breaks: p}
		}
		return left{continues: p}
	case api.OpRecover:
		k := at.kid(0)
		k.used = at.used
		return o.run(e.Kids[0], k, p)
	}
	return o.branches(e, at, p)
}

// fail adds an error.
func (o *oracle) fail(at place, w left, p points) left {
	if len(p) > 0 && !at.caught && !o.marked {
		o.fault(at, ErrPartial)
	}
	w.errors = unite(w.errors, p)
	return w
}

func (o *oracle) kids(e api.Expr, at place, p points) left {
	w := left{end: p}
	for i, k := range e.Kids {
		kid := at.kid(i)
		if e.Op == api.OpReturn {
			kid.used = at.result
		}
		w = w.and(o.run(k, kid, w.end))
	}
	return w
}

func (o *oracle) field(e api.Expr, at place, p points, set func(point) point) left {
	w := left{end: p}
	o.ahead[fmt.Sprint(at.kid(0).path)] = unite(o.ahead[fmt.Sprint(at.kid(0).path)], p)
	if e.Op == api.OpGet {
		o.check(at, ErrUnset, p, func(s point) bool { return o.isNew && s.value&fieldBit(e.Text) == 0 })
		return w
	}
	w = w.and(o.run(e.Kids[1], at.kid(1), p))
	b := fieldBit(e.Text)
	o.check(at, ErrUnset, w.end, func(s point) bool { return o.isNew && at.used && s.value&b == 0 })
	o.check(at, ErrSet, w.end, func(s point) bool { return e.Text == "f" && (!o.isNew || s.assigned&b != 0) })
	if o.isNew {
		w.end = w.end.each(set)
	}
	return w
}

// branches follows what chooses.
func (o *oracle) branches(e api.Expr, at place, p points) left {
	run := func(i int, used bool, p points) left {
		if e.Kids[i].Op == 0 {
			return left{end: p}
		}
		k := at.kid(i)
		k.used = used
		if e.Op == api.OpWhile {
			k.looped = at.looped || i < 2
		}
		if e.Op == api.OpTry {
			k.caught = at.caught || i == 0
		}
		return o.run(e.Kids[i], k, p)
	}
	switch e.Op {
	case api.OpSeq:
		w := left{end: p}
		for i := range e.Kids {
			if len(w.end) == 0 {
				o.fault(at.kid(i), ErrDead)
				break
			}
			w = w.and(run(i, at.used && i == len(e.Kids)-1, w.end))
		}
		return w
	case api.OpIf:
		c := run(0, true, p)
		a, b := run(1, at.used, c.end), run(2, at.used, c.end)
		b.end = unite(a.end, b.end)
		return c.and(a).and(b)
	case api.OpWhile:
		return o.loop(run, at, p)
	case api.OpTry:
		return o.try(e, run, at, p)
	case api.OpMatch:
		return o.match(e, run, at, p)
	}
	return left{end: p}
}

func (o *oracle) loop(run func(int, bool, points) left, at place, p points) left {
	head := p
	for {
		c := run(0, true, head)
		b := run(1, at.used, c.end)
		again := unite(b.end, b.continues)
		grown := unite(head, again, c.continues)
		if len(grown) > len(head) {
			head = grown
			continue
		}
		last := run(2, at.used, c.end)
		end := unite(last.end, c.breaks, b.breaks)
		if len(again) > 0 {
			end = unite(end, c.end)
		}
		return left{end, unite(c.errors, b.errors, last.errors), unite(c.returns, b.returns, last.returns), last.breaks, last.continues}
	}
}

func (o *oracle) try(e api.Expr, run func(int, bool, points) left, at place, p points) left {
	a := run(0, at.used, p)
	b := run(1, at.used, a.errors)
	w := left{unite(a.end, b.end), b.errors, unite(a.returns, b.returns), unite(a.breaks, b.breaks), unite(a.continues, b.continues)}
	if e.Kids[2].Op == 0 {
		return w
	}
	out := left{}
	for _, way := range []struct {
		from points
		to   *points
	}{{w.end, &out.end}, {w.errors, &out.errors}, {w.returns, &out.returns}, {w.breaks, &out.breaks}, {w.continues, &out.continues}} {
		t := run(2, false, way.from)
		end := out.end
		out = out.and(t)
		out.end = end
		*way.to = unite(*way.to, t.end)
	}
	return out
}

func (o *oracle) match(e api.Expr, run func(int, bool, points) left, at place, p points) left {
	w := run(0, true, p)
	ahead, end := w.end, points{}
	for i, k := range e.Kids[1:] {
		here := at.kid(i + 1)
		key := fmt.Sprint(here.path)
		o.ahead[key] = unite(o.ahead[key], ahead)
		bound, behind := ahead, func(p points) points { return p }
		if k.Text != "" {
			b := localBit(k.Text)
			bound = ahead.each(func(s point) point { return point{s.value | b, s.assigned | b} })
			behind = func(p points) points {
				return p.each(func(s point) point { return point{s.value &^ b, s.assigned} })
			}
		}
		g := left{end: bound}
		if k.Kids[0].Op != 0 {
			g = o.run(k.Kids[0], here.kid(0), bound)
		}
		inner := here.kid(1)
		inner.used = at.used
		body := o.run(k.Kids[1], inner, g.end)
		w = w.and(g).and(body)
		end = unite(end, behind(body.end))
		ahead = behind(bound)
		if k.Kids[0].Op != 0 {
			ahead = behind(unite(bound, g.end))
		}
	}
	w.end = unite(end, ahead)
	return w
}

// follow returns what the oracle finds of a method.
func follow(e api.Entity, partial [][]int) (*oracle, Report) {
	m := e.Methods[0]
	o := &oracle{m.Kind == api.New, m.Partial, map[string]bool{}, map[string]bool{"p": true}, map[string]Fault{}, map[string]points{}}
	for _, p := range partial {
		o.partial[fmt.Sprint(p)] = true
	}
	var declare func(x api.Expr)
	declare = func(x api.Expr) {
		if x.Op == api.OpLet || x.Op == api.OpCase {
			o.lets[x.Text] = true
		}
		for _, k := range x.Kids {
			declare(k)
		}
	}
	declare(m.Body)
	isFun := m.Kind == api.Fun
	w := o.run(m.Body, place{used: isFun, result: isFun}, points{{1, 1}: true})
	o.check(place{}, ErrField, w.end, func(s point) bool { return o.isNew && s.value&allFields != allFields })
	if m.Partial && len(w.errors) == 0 {
		o.fault(place{}, ErrPartial)
	}
	ends := unite(w.end, w.returns)
	r := Report{Errors: len(w.errors) > 0, Ends: len(ends) > 0}
	for _, name := range fields {
		has := o.isNew && len(ends) > 0
		for s := range ends {
			has = has && s.value&fieldBit(name) != 0
		}
		if has {
			r.Fields = append(r.Fields, name)
		}
	}
	for _, f := range o.faults {
		r.Faults = append(r.Faults, f)
	}
	inOrder(r.Faults)
	return o, r
}

// inOrder sorts faults.
func inOrder(l []Fault) {
	slices.SortFunc(l, func(a, b Fault) int {
		if c := slices.Compare(a.Path, b.Path); c != 0 {
			return c
		}
		return int(a.Code - b.Code)
	})
}

// calls returns the paths of calls in a body.
func calls(x api.Expr, path []int, yield func([]int)) {
	if x.Op == api.OpCall {
		yield(slices.Clone(path))
	}
	for i, k := range x.Kids {
		calls(k, append(slices.Clip(path), i), yield)
	}
}

// TestAllRuns: promise 11.2, and that each fault is one of some run: reports are those of all runs, for bodies by chance.
func TestAllRuns(t *testing.T) {
	clean, codes := 0, map[api.Errno]int{}
	for seed := range uint64(40000) {
		pick := sample.Source(seed)
		body := bodies{pick}.body(2 + pick(4))
		e := entity([]int{api.New, api.Fun, api.Be}[pick(3)], pick(2) == 0, body)
		var partial [][]int
		calls(body, nil, func(p []int) {
			if pick(2) == 0 {
				partial = append(partial, p)
			}
		})
		o, want := follow(e, partial)
		got, code := Check(e, 0, partial)
		if code != api.OK || told(got) != told(want) {
			t.Fatalf("seed %d: %v\n%s, error %d, want %s", seed, body, told(got), code, told(want))
		}
		for _, f := range got.Faults {
			codes[f.Code]++
		}
		if len(got.Faults) == 0 {
			clean++
		}
		if e.Methods[0].Kind == api.Fun && e.Methods[0].Partial && len(partial) == 0 {
			valued(t, body, o)
		}
	}
	for code := ErrUnset; code <= ErrDead; code++ {
		if codes[code] < 500 {
			t.Errorf("the fault %d is there %d times", code, codes[code])
		}
	}
	if clean < 1000 {
		t.Errorf("only %d bodies without faults", clean)
	}
}

// valued compares Valued at each node with what the oracle found.
func valued(t *testing.T, body api.Expr, o *oracle) {
	t.Helper()
	var walk func(x api.Expr, path []int)
	walk = func(x api.Expr, path []int) {
		l, e := Valued(body, []string{"p"}, path)
		p := o.ahead[fmt.Sprint(path)]
		var want []string
		for _, name := range slices.Sorted(slices.Values(locals)) {
			has := true
			for s := range p {
				has = has && s.value&localBit(name) != 0
			}
			if has && len(p) > 0 {
				want = append(want, name)
			}
		}
		switch {
		case x.Op == 0:
			if e != api.ErrNone {
				t.Fatalf("Valued of none in %v at %v: error %d", body, path, e)
			}
		case len(p) == 0:
			if e != ErrDead || len(l) > 0 {
				t.Fatalf("Valued in %v at %v, which is not reached: %v, error %d", body, path, l, e)
			}
		case e != api.OK || !slices.Equal(l, want):
			t.Fatalf("Valued in %v at %v: %v, error %d, want %v", body, path, l, e, want)
		}
		for i, k := range x.Kids {
			walk(k, append(slices.Clip(path), i))
		}
	}
	walk(body, nil)
}

// has reports whether a report has a fault of a code.
func has(r Report, code api.Errno) bool {
	return slices.ContainsFunc(r.Faults, func(f Fault) bool { return f.Code == code })
}

// TestMore: promises 11.3 to 11.5.
func TestMore(t *testing.T) {
	for seed := range uint64(20000) {
		pick := sample.Source(seed)
		m := bodies{pick}
		body := m.body(2 + pick(3))
		e := entity(api.Fun, pick(2) == 0, body)
		r, _ := Check(e, 0, nil)
		more := e
		more.Methods = slices.Clone(e.Methods)
		more.Methods[0].Params = append(slices.Clone(e.Methods[0].Params), api.Param{Name: "q"})
		if s, _ := Check(more, 0, nil); told(s) != told(r) {
			t.Fatalf("seed %d: with a parameter more %s, and %s without", seed, told(s), told(r))
		}
		more.Methods[0] = e.Methods[0]
		more.Methods[0].Body = seq(body)
		s, _ := Check(more, 0, nil)
		for i := range s.Faults {
			if len(s.Faults[i].Path) > 0 {
				s.Faults[i].Path = s.Faults[i].Path[1:]
			}
		}
		inOrder(s.Faults)
		if told(s) != told(r) {
			t.Fatalf("seed %d: in an OpSeq %s, and %s alone", seed, told(s), told(r))
		}
		more.Methods[0].Body = renamed(body)
		if s, _ := Check(more, 0, nil); !slices.Contains(free(body), "p") && !reflect.DeepEqual(s, r) {
			t.Fatalf("seed %d: with other names %s, and %s", seed, told(s), told(r))
		}
		inLoops(t, seed, e, body)
		inTries(t, seed, body)
	}
}

func free(x api.Expr) []string {
	l, _ := Free(x)
	k, _ := Locals(x)
	return append(l, k...)
}

// renamed returns a body in which the locals but p have other names.
func renamed(x api.Expr) api.Expr {
	switch x.Op {
	case api.OpLocal, api.OpConsume, api.OpAssign, api.OpVar, api.OpLet, api.OpCase:
		if x.Text != "" && x.Text != "p" {
			x.Text = "other." + x.Text
		}
	}
	kids := x.Kids
	x.Kids = nil
	for _, k := range kids {
		x.Kids = append(x.Kids, renamed(k))
	}
	return x
}

// inLoops checks that a body has no fault that it has not as that of a loop.
func inLoops(t *testing.T, seed uint64, e api.Entity, body api.Expr) {
	t.Helper()
	e.Methods = slices.Clone(e.Methods)
	e.Methods[0].Kind = api.Be // nothing is used
	once, _ := Check(e, 0, nil)
	if has(once, ErrLoop) {
		return
	}
	e.Methods[0].Body = while(lit, body, none)
	often, _ := Check(e, 0, nil)
	for _, f := range once.Faults {
		if len(f.Path) == 0 && f.Code == ErrPartial && e.Methods[0].Partial {
			continue
		}
		at := append([]int{1}, f.Path...)
		if !slices.ContainsFunc(often.Faults, func(g Fault) bool { return g.Code == f.Code && slices.Equal(g.Path, at) }) {
			t.Fatalf("seed %d: once %s, in a loop %s", seed, told(once), told(often))
		}
	}
}

// inTries checks that what has a value behind a body has one behind an OpTry of it.
func inTries(t *testing.T, seed uint64, body api.Expr) {
	t.Helper()
	r, _ := Check(entity(api.Fun, true, body), 0, nil)
	if r.Errors {
		return
	}
	a, e := Valued(seq(body, lit), []string{"p"}, []int{1})
	b, f := Valued(seq(try(body, none, none), lit), []string{"p"}, []int{1})
	if e != f || !slices.Equal(a, b) {
		t.Fatalf("seed %d: behind the body %v, error %d, behind an OpTry %v, error %d", seed, a, e, b, f)
	}
}

// TestAnything: promises 1 and 2, for bodies of any form.
func TestAnything(t *testing.T) {
	right := 0
	for seed := range uint64(20000) {
		all := func() any {
			pick := sample.Source(seed)
			body := sample.ProgramMaker{Pick: pick}.Expr(4)
			r, e := Check(entity(pick(5), pick(2) == 0, body), 0, [][]int{nil, {0}, {-1, 5}})
			l, f := Locals(body)
			k, g := Free(body)
			v, h := Valued(body, []string{"a"}, []int{pick(3), pick(2)}[:pick(3)])
			x, i := At(body, []int{pick(3), 0})
			if e == api.OK {
				right++
			}
			if body.Op != 0 && (e != f || f != g) {
				t.Fatalf("seed %d: errors %d, %d, %d", seed, e, f, g)
			}
			return []any{r, e, l, f, k, g, v, h, x, i}
		}
		if !reflect.DeepEqual(all(), all()) {
			t.Fatalf("seed %d: other results", seed)
		}
	}
	if right < 2000 {
		t.Errorf("only %d bodies are right", right)
	}
}
