package meaning_test

import (
	"reflect"
	"slices"
	"strconv"
	"strings"
	"testing"

	"hackamore/api"
	"hackamore/internal/pony"
	"hackamore/internal/sample"
	. "hackamore/meaning"
	"hackamore/num"
	"hackamore/world"
)

// oracle is the chapter again, without panics: each evaluation returns its Outcome.
type oracle struct {
	w     *world.World
	actor int
	fuel  int
	depth int
}

// scope is the local variables, and the receiver.
type scope struct {
	this   api.Value
	names  []string
	values map[string]api.Value
}

func (s *scope) put(name string, v api.Value) {
	if !slices.Contains(s.names, name) {
		s.names = append(s.names, name)
	}
	s.values[name] = v
}

func (s *scope) locals() []Local {
	var l []Local
	for _, n := range s.names {
		l = append(l, Local{n, s.values[n]})
	}
	return l
}

func newScope(this api.Value) *scope { return &scope{this: this, values: map[string]api.Value{}} }

func is(v api.Value) Outcome { return Outcome{Kind: Value, Value: v} }

func bad(e api.Errno) Outcome { return Outcome{Kind: Wrong, Code: e} }

// told by the world: a limit is Empty.
func fromWorld(v api.Value, e api.Errno) Outcome {
	switch {
	case e == api.OK:
		return is(v)
	case e == api.ErrFull || e == api.ErrLarge || e == api.ErrDepth:
		return Outcome{Kind: Empty, Code: e}
	}
	return bad(e)
}

func truth(b bool) Outcome {
	if b {
		return is(api.Value{Kind: api.ValBool, Lo: 1})
	}
	return is(api.Value{Kind: api.ValBool})
}

func someNone(v api.Value) api.Value {
	if v.Kind == api.ValNone {
		return unit("None")
	}
	return v
}

// right reports whether there are as many Kids and Types as the chapter says.
func (o *oracle) right(e api.Expr) bool {
	kids, types := len(e.Kids), len(e.Types)
	switch e.Op {
	case api.OpLit, api.OpVar, api.OpLet, api.OpRecover, api.OpUnit:
		if types != 1 {
			return false
		}
	case api.OpNew:
		if types == 0 {
			return false
		}
	case api.OpCall:
	default:
		if types > 0 {
			return false
		}
	}
	switch e.Op {
	case api.OpLit, api.OpLocal, api.OpThis, api.OpConsume, api.OpError, api.OpBreak, api.OpContinue, api.OpUnit:
		return kids == 0
	case api.OpVar, api.OpLet, api.OpReturn:
		return kids < 2
	case api.OpGet, api.OpAssign, api.OpRecover, api.OpItem:
		return kids == 1
	case api.OpSet, api.OpIs:
		return kids == 2
	case api.OpIf, api.OpWhile, api.OpTry:
		return kids == 3
	case api.OpMatch, api.OpCall:
		return kids > 0
	case api.OpTuple:
		return kids > 1
	}
	return e.Op == api.OpSeq || e.Op == api.OpNew
}

func (o *oracle) maybe(s *scope, e api.Expr) Outcome {
	if e.Op == 0 {
		return is(unit("None"))
	}
	return o.eval(s, e)
}

func (o *oracle) eval(s *scope, e api.Expr) Outcome {
	if o.fuel == 0 {
		return Outcome{Kind: Empty, Code: api.ErrSteps}
	}
	o.fuel--
	if !o.right(e) {
		return bad(api.ErrForm)
	}
	switch e.Op {
	case api.OpIf:
		c := o.eval(s, e.Kids[0])
		switch {
		case c.Kind != Value:
			return c
		case c.Value.Kind != api.ValBool:
			return bad(api.ErrType)
		case c.Value.Lo == 1:
			return o.eval(s, e.Kids[1])
		}
		return o.maybe(s, e.Kids[2])
	case api.OpWhile:
		return o.while(s, e)
	case api.OpMatch:
		return o.match(s, e)
	case api.OpTry:
		out := o.eval(s, e.Kids[0])
		if out.Kind == Error {
			out = o.maybe(s, e.Kids[1])
		}
		if out.Kind != Empty && out.Kind != Wrong && e.Kids[2].Op != 0 {
			if last := o.eval(s, e.Kids[2]); last.Kind != Value {
				return last
			}
		}
		return out
	case api.OpError:
		return Outcome{Kind: Error}
	case api.OpBreak:
		return Outcome{Kind: Break}
	case api.OpContinue:
		return Outcome{Kind: Continue}
	}
	var l []api.Value
	for _, k := range e.Kids {
		x := o.eval(s, k)
		if x.Kind != Value {
			return x
		}
		l = append(l, x.Value)
	}
	return o.operate(s, e, l)
}

func (o *oracle) while(s *scope, e api.Expr) Outcome {
	out, never := is(unit("None")), true
	for {
		c := o.eval(s, e.Kids[0])
		if c.Kind == Break {
			return is(unit("None"))
		}
		if c.Kind == Continue {
			continue
		}
		if c.Kind != Value {
			return c
		}
		if c.Value.Kind != api.ValBool {
			return bad(api.ErrType)
		}
		if c.Value.Lo == 0 {
			break
		}
		never = false
		out = o.eval(s, e.Kids[1])
		if out.Kind == Break {
			return is(unit("None"))
		}
		if out.Kind == Continue {
			out = is(unit("None"))
		}
		if out.Kind != Value {
			return out
		}
	}
	if never {
		return o.maybe(s, e.Kids[2])
	}
	return out
}

func (o *oracle) match(s *scope, e api.Expr) Outcome {
	x := o.eval(s, e.Kids[0])
	if x.Kind != Value {
		return x
	}
	for _, c := range e.Kids[1:] {
		if c.Op != api.OpCase || len(c.Types) != 1 || len(c.Kids) != 2 {
			return bad(api.ErrForm)
		}
		if !o.w.Is(x.Value, c.Types[0]) {
			continue
		}
		if c.Text != "" {
			s.put(c.Text, x.Value)
		}
		if c.Kids[0].Op != 0 {
			g := o.eval(s, c.Kids[0])
			if g.Kind != Value {
				return g
			}
			if g.Value.Kind != api.ValBool {
				return bad(api.ErrType)
			}
			if g.Value.Lo == 0 {
				continue
			}
		}
		return o.eval(s, c.Kids[1])
	}
	return is(unit("None"))
}

func (o *oracle) operate(s *scope, e api.Expr, l []api.Value) Outcome {
	had, there := s.values[e.Text]
	switch e.Op {
	case api.OpLit:
		return o.literal(e)
	case api.OpThis:
		return is(s.this)
	case api.OpLocal, api.OpConsume:
		if !there {
			return bad(api.ErrScope)
		}
		if had.Kind == api.ValNone {
			return bad(world.ErrUnset)
		}
		if e.Op == api.OpConsume {
			s.values[e.Text] = api.Value{}
		}
		return is(had)
	case api.OpVar, api.OpLet:
		s.put(e.Text, append(l, api.Value{})[0])
		return is(unit("None"))
	case api.OpAssign:
		if !there {
			return bad(api.ErrScope)
		}
		s.values[e.Text] = l[0]
		return is(someNone(had))
	case api.OpGet, api.OpSet:
		if l[0].Kind == api.ValActor && int(l[0].Lo) != o.actor {
			return bad(api.ErrCap)
		}
		if e.Op == api.OpGet {
			return fromWorld(o.w.Get(l[0], e.Text))
		}
		old, code := o.w.Set(l[0], e.Text, l[1])
		return fromWorld(someNone(old), code)
	case api.OpSeq:
		return is(append([]api.Value{unit("None")}, l...)[len(l)])
	case api.OpReturn:
		return Outcome{Kind: Return, Value: append([]api.Value{unit("None")}, l...)[len(l)]}
	case api.OpRecover:
		return is(l[0])
	case api.OpTuple:
		return is(api.Value{Kind: api.ValTuple, Kids: l})
	case api.OpItem:
		if l[0].Kind != api.ValTuple {
			return bad(api.ErrType)
		}
		for i, k := range l[0].Kids {
			if strconv.Itoa(i) == e.Text {
				return is(k)
			}
		}
		return bad(api.ErrRange)
	case api.OpIs:
		return truth(world.Same(l[0], l[1]))
	case api.OpUnit:
		return is(unit(e.Types[0].Name))
	case api.OpCall:
		return o.call(l[0], e.Text, l[1:])
	}
	return o.construct(e.Types[0].Name, e.Text, l)
}

func (o *oracle) literal(e api.Expr) Outcome {
	switch typ := e.Types[0].Name; {
	case typ == "String":
		return fromWorld(o.w.Text(o.actor, e.Text))
	case typ == "Bool" && e.Text != "true" && e.Text != "false":
		return bad(api.ErrForm)
	case typ == "Bool":
		return truth(e.Text == "true")
	default:
		v, code := num.Parse(typ, e.Text)
		if code != api.OK {
			return bad(code)
		}
		return is(v)
	}
}

func (o *oracle) construct(typ, name string, l []api.Value) Outcome {
	if strings.HasPrefix(typ, "Array[") && name == "create" && len(l) == 0 {
		return fromWorld(o.w.Array(o.actor, typ, nil))
	}
	if slices.Contains(num.Types(), typ) && name == "create" && len(l) == 1 {
		if o.w.Type(l[0]) != typ {
			return bad(api.ErrType)
		}
		return is(l[0])
	}
	entity, code := o.w.Entity(typ)
	if code == api.OK && entity.Kind == api.Primitive {
		return is(unit(typ))
	}
	if code != api.OK || entity.Kind != api.Class && entity.Kind != api.Actor {
		return bad(world.ErrMethod)
	}
	m, code := o.w.Method(typ, name)
	if code != api.OK || m.Kind != api.New {
		return bad(world.ErrMethod)
	}
	if len(m.Params) != len(l) {
		return bad(api.ErrSize)
	}
	if entity.Kind == api.Actor {
		v := fromWorld(o.w.Spawn(typ))
		if v.Kind == Value {
			if sent := fromWorld(api.Value{}, o.w.Send(api.Message{From: o.actor, To: int(v.Value.Lo), Name: name, Args: l})); sent.Kind != Value {
				return sent
			}
		}
		return v
	}
	v := fromWorld(o.w.Make(o.actor, typ))
	if v.Kind == Value {
		if out := o.run(m, v.Value, l); out.Kind != Value {
			return out
		}
	}
	return v
}

func (o *oracle) call(receiver api.Value, name string, l []api.Value) Outcome {
	typ := o.w.Type(receiver)
	if typ == "" {
		return bad(api.ErrType)
	}
	m, code := o.w.Method(typ, name)
	if code != api.OK || m.Body.Op == 0 && m.Kind != api.Be {
		v, raised, code := o.w.Call(o.actor, receiver, name, l)
		if raised {
			return Outcome{Kind: Error}
		}
		return fromWorld(v, code)
	}
	if m.Kind == api.Be && receiver.Kind != api.ValActor {
		return bad(api.ErrType)
	}
	if m.Kind != api.Be && m.Kind != api.Fun {
		return bad(world.ErrMethod)
	}
	if len(m.Params) != len(l) {
		return bad(api.ErrSize)
	}
	if m.Kind == api.Be {
		return fromWorld(unit("None"), o.w.Send(api.Message{From: o.actor, To: int(receiver.Lo), Name: name, Args: l}))
	}
	return o.run(m, receiver, l)
}

func (o *oracle) run(m api.Method, this api.Value, l []api.Value) Outcome {
	if o.depth == MaxCalls+1 {
		return Outcome{Kind: Empty, Code: api.ErrDepth}
	}
	s := newScope(this)
	for i, p := range m.Params {
		s.put(p.Name, l[i])
	}
	o.depth++
	out := o.eval(s, m.Body)
	o.depth--
	switch {
	case out.Kind == Break || out.Kind == Continue:
		return bad(api.ErrForm)
	case out.Kind == Error && !m.Partial:
		return bad(api.ErrState)
	case out.Kind > Return || out.Kind == Error:
		return out
	case m.Result.Kind == api.TypeName && m.Result.Name == "None":
		return is(unit("None"))
	}
	return is(out.Value)
}

// wild makes expressions by chance, many of which are right.
type wild struct{ pick func(int) int }

func (m wild) one(l string) string {
	words := strings.Split(l, " ")
	return words[m.pick(len(words))]
}

func (m wild) typ() api.Type {
	return api.Type{Kind: api.TypeName, Name: m.one("U8 USize Bool None String main.Cell main.Dog main.Act main.Maths main.Named Any Array[U8 Nope") + "", Cap: api.Val}
}

// typeArguments returns those of a call, mostly none.
func (m wild) typeArguments() []api.Type {
	var l []api.Type
	for range max(0, m.pick(6)-3) {
		l = append(l, m.typ())
	}
	return l
}

func (m wild) leaf() api.Expr {
	switch m.pick(12) {
	case 0, 1, 2:
		return local(m.one("x x x u y z"))
	case 3, 4:
		return byte8(m.one("0 1 2 5 250 300"))
	case 5:
		return lit(m.one("true false true false maybe") + ": Bool")
	case 6:
		return lit(m.one("0 1 7") + ": USize")
	case 7:
		return this()
	case 8:
		return makes("create: main.Cell")
	case 9:
		return expr(api.OpConsume, m.one("x u y z"))
	case 10:
		return lit("s: String")
	}
	return []api.Expr{fail(), expr(api.OpBreak, ""), expr(api.OpContinue, ""), no, seq()}[m.pick(5)]
}

func (m wild) many(depth, least, most int) []api.Expr {
	var l []api.Expr
	for range least + m.pick(most-least+1) {
		l = append(l, m.expr(depth))
	}
	return l
}

func (m wild) maybe(depth int) api.Expr {
	if m.pick(2) == 0 {
		return no
	}
	return m.expr(depth)
}

func (m wild) cond(depth int) api.Expr {
	if m.pick(2) == 0 {
		return call(m.one("lt eq ge"), local("x"), byte8(m.one("0 5 9")))
	}
	return m.expr(depth)
}

// expr returns an expression, whose parts have at most a depth.
func (m wild) expr(depth int) api.Expr {
	if depth <= 0 || m.pick(8) == 0 {
		return m.leaf()
	}
	depth--
	e := func() api.Expr { return m.expr(depth) }
	switch m.pick(17) {
	case 0, 1:
		return seq(m.many(depth, 1, 4)...)
	case 2:
		return expr(api.OpIf, "", m.cond(depth), e(), m.maybe(depth))
	case 3:
		step := assign("x", call("add", local("x"), byte8("1")))
		return expr(api.OpWhile, "", m.cond(depth), seq(step, e()), m.maybe(depth))
	case 4:
		x := expr(api.OpMatch, "", m.many(depth, 1, 1)...)
		for range m.pick(4) {
			x.Kids = append(x.Kids, api.Expr{Op: api.OpCase, Text: m.one("y z x  "), Types: []api.Type{m.typ()}, Kids: []api.Expr{m.maybe(depth), e()}})
		}
		return x
	case 5:
		return expr(api.OpTry, "", e(), m.maybe(depth), m.maybe(depth))
	case 6:
		return expr(api.OpReturn, "", m.many(depth, 0, 1)...)
	case 7:
		return expr(api.OpVar+m.pick(2), m.one("x y z u")+": U8 val", m.many(depth, 0, 1)...)
	case 8:
		return assign(m.one("x x u y"), e())
	case 9:
		return expr(api.OpSet, m.one("v v next n w"), m.receiver(depth), e())
	case 10:
		return expr(api.OpGet, m.one("v v next n w"), m.receiver(depth))
	case 11, 12, 13:
		x := m.calling(depth)
		x.Types = m.typeArguments()
		return x
	case 14:
		x := makes(m.one("create of twice nope")+": x", m.many(depth, 0, 2)...)
		x.Types = append([]api.Type{m.typ()}, m.typeArguments()...)
		return x
	case 15:
		return expr(api.OpItem, m.one("0 1 2 x"), expr(api.OpTuple, "", m.many(depth, 2, 3)...))
	}
	x := expr(1+m.pick(api.OpLast), m.one("x get"), m.many(depth, 0, 3)...)
	for range m.pick(2) {
		x.Types = append(x.Types, m.typ())
	}
	return x
}

func (m wild) receiver(depth int) api.Expr {
	return []api.Expr{this(), makes("of: main.Cell", byte8("1")), local("c"), local("a"), m.expr(depth)}[m.pick(5)]
}

func (m wild) calling(depth int) api.Expr {
	switch m.pick(4) {
	case 0:
		return call(m.one("add sub_partial lt string eq div_partial"), m.many(depth, 1, 2)...)
	case 1:
		return call(m.one("push pop size apply update"), append([]api.Expr{this()}, m.many(depth, 0, 2)...)...)
	case 2:
		return call(m.one("go go print create nope"), local("a"), m.expr(depth))
	}
	return call(m.one("get two risky give back bad"), append([]api.Expr{m.receiver(depth)}, m.many(depth, 0, 2)...)...)
}

// program returns the program whose bodies are made by chance.
func (m wild) program() []api.Entity {
	p := pony.Program(text)
	for _, where := range []string{"Cell get", "Cell two", "Cell risky", "Cell give", "Cell back", "Cell bad", "Cell of", "Cell twice", "Act go", "Act create"} {
		entity, name, _ := strings.Cut(where, " ")
		p, _, _ = pony.With(p, "main."+entity, name, func(x *api.Method) {
			x.Partial = m.pick(2) == 0
			if m.pick(8) > 0 {
				x.Body = m.expr(3)
			}
		})
	}
	return p
}

// TestOracle checks P18.1 and P18.2 with programs and expressions by chance.
func TestOracle(t *testing.T) {
	kinds := map[int]int{}
	for seed := range 100 {
		m := wild{sample.Source(uint64(seed))}
		start := begun(t, m.program())
		array, _ := start.Array(1, "Array[U8 val]", []api.Value{u8(3), u8(4)})
		cell, _ := start.Make(1, "main.Cell")
		s := start.State()
		l := locals("x", u8(5), "u", api.Value{}, "a", act(2), "c", cell)
		for range 60 {
			e, fuel := m.expr(5), []int{5, 50, 3000}[m.pick(3)]
			v, w := loaded(t, s), loaded(t, s)
			got := Eval(v, 1, array, e, l, fuel)
			o, sc := &oracle{w: w, actor: 1, fuel: fuel}, newScope(array)
			for _, x := range l {
				sc.put(x.Name, x.Value)
			}
			want := o.eval(sc, e)
			want.Locals, want.Used = sc.locals(), fuel-o.fuel
			if want.Kind != Value && want.Kind != Return {
				want.Value = api.Value{}
			}
			if !reflect.DeepEqual(got, want) || !sameState(v, w) {
				t.Fatalf("seed %d, fuel %d: %s (%d), not %s (%d), of %+v", seed, fuel, told(v, got), got.Used, told(w, want), want.Used, e)
			}
			if code := world.Check(v.State()); code != api.OK {
				t.Fatalf("seed %d: the state is not right", seed)
			}
			if got.Used > fuel {
				t.Fatalf("used %d of %d", got.Used, fuel)
			}
			checkUntouched(t, e, l, got)
			kinds[got.Kind]++
		}
	}
	for kind, name := range kindNames {
		if kinds[kind] < 20 {
			t.Errorf("%s: %d", name, kinds[kind])
		}
	}
}

// named adds the names of local variables that an expression may change.
func named(e api.Expr, l map[string]bool) {
	switch e.Op {
	case api.OpVar, api.OpLet, api.OpAssign, api.OpConsume, api.OpCase:
		l[e.Text] = true
	}
	for _, k := range e.Kids {
		named(k, l)
	}
}

// checkUntouched checks P18.4: local variables that nothing names have their values.
func checkUntouched(t *testing.T, e api.Expr, before []Local, o Outcome) {
	t.Helper()
	changed := map[string]bool{}
	named(e, changed)
	for _, x := range before {
		i := slices.IndexFunc(o.Locals, func(l Local) bool { return l.Name == x.Name })
		if i < 0 || !changed[x.Name] && !reflect.DeepEqual(o.Locals[i], x) {
			t.Fatalf("%s changed", x.Name)
		}
	}
}

// TestOracleSteps: steps of programs by chance, by both.
func TestOracleSteps(t *testing.T) {
	for seed := range 300 {
		m := wild{sample.Source(uint64(seed) + 1000)}
		p := m.program()
		v, w := begun(t, p), begun(t, p)
		for range 1 + m.pick(6) {
			x := api.Message{From: m.pick(3) - 1, To: 2, Name: m.one("go go go create fail chat nope mine"), Args: []api.Value{u8(uint64(m.pick(256)))}}
			v.Send(x)
			w.Send(x)
		}
		for range 20 {
			choice, fuel := m.pick(5)-2, 1+m.pick(400)
			used, end, ok := Step(v, choice, fuel)
			gotUsed, want, wantOK := oracleStep(w, choice, fuel)
			if used != gotUsed || end != want || ok != wantOK || !sameState(v, w) {
				t.Fatalf("seed %d: %d %v %v, not %d %v %v", seed, used, end, ok, gotUsed, want, wantOK)
			}
		}
	}
}

func oracleStep(w *world.World, choice, fuel int) (int, End, bool) {
	ready := w.Ready()
	if len(ready) == 0 {
		return 0, End{Rest, -1, 0}, false
	}
	n := len(ready)
	actor := ready[((choice%n)+n)%n]
	m, _ := w.Take(actor)
	o := &oracle{w: w, actor: actor, fuel: fuel - 1}
	method, code := w.Method(w.Type(act(actor)), m.Name)
	out := Outcome{}
	switch {
	case code != api.OK || method.Kind != api.Be && method.Kind != api.New:
		out = bad(world.ErrMethod)
	case len(method.Params) != len(m.Args):
		out = bad(api.ErrSize)
	case method.Body.Op == 0:
		v, raised, code := w.Call(actor, act(actor), m.Name, m.Args)
		out = fromWorld(v, code)
		if raised {
			out = Outcome{Kind: Error}
		}
	default:
		out = o.run(method, act(actor), m.Args)
	}
	used := fuel - o.fuel
	switch out.Kind {
	case Value:
		return used, End{Rest, -1, 0}, true
	case Empty:
		return used, End{Fuel, actor, out.Code}, true
	case Wrong:
		return used, End{Stuck, actor, out.Code}, true
	}
	return used, End{Stuck, actor, api.ErrState}, true
}
