package flow

import (
	"maps"
	"slices"

	"hackamore/api"
)

// runner runs the body of a method along all ways at once. A quiet one tells no faults: it only finds what expressions do with states.
// So each node is looked at once by the loud one, however deep loops and parts of OpTry stand in others.
type runner struct {
	rules   map[int]func(*runner, *tree, state) ways
	isNew   bool
	partial bool
	fields  []string        // of a constructor, each name once
	once    map[string]bool // the fields of the entity that are Let
	lets    map[string]bool
	start   state
	faults  []Fault
	quiet   *runner // nil, if it is quiet itself
}

func rules() map[int]func(*runner, *tree, state) ways {
	return map[int]func(*runner, *tree, state) ways{
		api.OpLocal: (*runner).local, api.OpThis: (*runner).this, api.OpGet: (*runner).get, api.OpSet: (*runner).set,
		api.OpVar: (*runner).declare, api.OpLet: (*runner).declare, api.OpAssign: (*runner).assign, api.OpConsume: (*runner).consume,
		api.OpSeq: (*runner).seq, api.OpIf: (*runner).choose, api.OpWhile: (*runner).loop, api.OpMatch: (*runner).match,
		api.OpTry: (*runner).try, api.OpError: (*runner).raise, api.OpReturn: (*runner).leave, api.OpBreak: (*runner).jump,
		api.OpContinue: (*runner).jump, api.OpCall: (*runner).call, api.OpNew: (*runner).call,
	}
}

func newRunner(e api.Entity, m api.Method, body *tree) *runner {
	r := &runner{rules: rules(), isNew: m.Kind == api.New, partial: m.Partial, once: map[string]bool{}, lets: map[string]bool{}, start: state{}}
	known := map[string]bool{}
	for _, f := range e.Fields {
		if known[f.Name] {
			continue
		}
		known[f.Name] = true
		r.once[f.Name] = f.Let
		if r.isNew {
			r.fields = append(r.fields, f.Name)
		}
	}
	for _, p := range m.Params {
		r.lets[p.Name] = true
		r.start = r.start.set(local(p.Name))
	}
	for n := range nodes(body.Expr) {
		if n.Op == api.OpLet || n.Op == api.OpCase && n.Text != "" {
			r.lets[n.Text] = true
		}
	}
	quiet := *r
	r.quiet = &quiet
	return r
}

// fault tells a fault.
func (r *runner) fault(code api.Errno, path []int) {
	if r.quiet != nil {
		r.faults = append(r.faults, Fault{code, slices.Clone(path)})
	}
}

// faultIf tells a fault at a node.
func (r *runner) faultIf(is bool, code api.Errno, t *tree) {
	if is {
		r.fault(code, t.path)
	}
}

// silent returns a quiet runner.
func (r *runner) silent() *runner {
	if r.quiet == nil {
		return r
	}
	return r.quiet
}

// run runs an expression that is reached in a state.
func (r *runner) run(t *tree, s state) ways {
	if s == nil {
		return ways{}
	}
	if r.quiet != nil {
		t.ahead = join(t.ahead, s)
		return r.step(t, s)
	}
	if t.summary == nil {
		w := r.step(t, state{})
		t.summary = &w
	}
	return t.summary.from(s)
}

func (r *runner) step(t *tree, s state) ways {
	if rule, ok := r.rules[t.Op]; ok {
		return rule(r, t, s)
	}
	return r.inOrder(t.kids, s)
}

// inOrder runs expressions one after the other.
func (r *runner) inOrder(l []*tree, s state) ways {
	out := ways{end: s}
	for _, k := range l {
		w := r.run(k, out.end)
		out = ways{out.meet(w.leaving), w.end}
	}
	return out
}

// hasFields reports whether all fields of a constructor have a value.
func (r *runner) hasFields(s state) bool {
	return !slices.ContainsFunc(r.fields, func(name string) bool { return !s.hasValue(field(name)) })
}

func (r *runner) local(t *tree, s state) ways {
	r.faultIf(!s.hasValue(local(t.Text)), ErrUnset, t)
	return ways{end: s}
}

func (r *runner) consume(t *tree, s state) ways {
	w := r.local(t, s)
	w.end = w.end.unset(local(t.Text))
	return w
}

func (r *runner) this(t *tree, s state) ways {
	r.faultIf(!r.hasFields(s), ErrField, t)
	return ways{end: s}
}

// ofThis runs the Kids of an operation on a field; it reports whether this is one of the receiver, which is then not shown.
func (r *runner) ofThis(t *tree, s state) (ways, bool) {
	if s != nil && t.kids[0].Op == api.OpThis {
		if r.quiet != nil {
			t.kids[0].ahead = s
		}
		return r.inOrder(t.kids[1:], s), true
	}
	return r.inOrder(t.kids, s), false
}

func (r *runner) get(t *tree, s state) ways {
	w, this := r.ofThis(t, s)
	isOwn := r.isNew && this && slices.Contains(r.fields, t.Text)
	r.faultIf(isOwn && w.end != nil && !w.end.hasValue(field(t.Text)), ErrUnset, t)
	return w
}

func (r *runner) set(t *tree, s state) ways {
	w, this := r.ofThis(t, s)
	if !this || w.end == nil {
		return w
	}
	v := field(t.Text)
	r.faultIf(r.isNew && t.used && !w.end.hasValue(v), ErrUnset, t)
	r.faultIf(r.once[t.Text] && (!r.isNew || w.end.isAssigned(v)), ErrSet, t)
	if r.isNew {
		w.end = w.end.set(v)
	}
	return w
}

func (r *runner) declare(t *tree, s state) ways {
	w := r.inOrder(t.kids, s)
	if len(t.kids) == 0 {
		w.end = w.end.with(local(t.Text), 0)
	} else {
		w.end = w.end.set(local(t.Text))
	}
	return w
}

func (r *runner) assign(t *tree, s state) ways {
	w := r.inOrder(t.kids, s)
	v := local(t.Text)
	if w.end == nil {
		return w
	}
	r.faultIf(t.used && !w.end.hasValue(v), ErrUnset, t)
	r.faultIf(r.lets[t.Text] && w.end.isAssigned(v), ErrSet, t)
	w.end = w.end.set(v)
	return w
}

func (r *runner) seq(t *tree, s state) ways {
	out := ways{end: s}
	for _, k := range t.kids {
		if out.end == nil {
			r.fault(ErrDead, k.path)
			break
		}
		w := r.run(k, out.end)
		out = ways{out.meet(w.leaving), w.end}
	}
	return out
}

// maybe runs an expression that may be none.
func (r *runner) maybe(t *tree, s state) ways {
	if isNone(t.Expr) {
		return ways{end: s}
	}
	return r.run(t, s)
}

func (r *runner) choose(t *tree, s state) ways {
	c := r.run(t.kids[0], s)
	a, b := r.run(t.kids[1], c.end), r.maybe(t.kids[2], c.end)
	return ways{c.meet(a.leaving).meet(b.leaving), join(a.end, b.end)}
}

func (r *runner) loop(t *tree, s state) ways {
	head := r.head(t, s)
	c := r.run(t.kids[0], head)
	b := r.run(t.kids[1], c.end)
	last := r.maybe(t.kids[2], c.end)
	out := ways{leaving{breaks: last.breaks, continues: last.continues}, join(last.end, c.breaks, b.breaks)}
	if b.end != nil || b.continues != nil { // the condition may be asked a second time
		out.end = join(out.end, c.end)
	}
	out.errors = join(c.errors, b.errors, last.errors)
	out.returns = join(c.returns, b.returns, last.returns)
	return out
}

// head returns the state in which the condition of a loop is asked at any time.
func (r *runner) head(t *tree, s state) state {
	q, head := r.silent(), s
again:
	for {
		c := q.run(t.kids[0], head)
		b := q.run(t.kids[1], c.end)
		next := join(s, c.continues, b.continues, b.end)
		if maps.Equal(next, head) {
			break again
		}
		head = next
	}
	return head
}

func (r *runner) match(t *tree, s state) ways {
	w := r.run(t.kids[0], s)
	out := ways{leaving: w.leaving}
	next := w.end
	for _, k := range t.kids[1:] {
		if next == nil {
			break
		}
		if r.quiet != nil {
			k.ahead = join(k.ahead, next)
		}
		behind := func(s state) state { return s }
		if k.Text != "" {
			v := local(k.Text)
			next = next.set(v)
			behind = func(s state) state { return s.unset(v) }
		}
		guard := r.maybe(k.kids[0], next)
		body := r.run(k.kids[1], guard.end)
		out = ways{out.meet(guard.leaving).meet(body.leaving), join(out.end, behind(body.end))}
		if !isNone(k.kids[0].Expr) {
			next = join(next, guard.end)
		}
		next = behind(next)
	}
	out.end = join(out.end, next)
	return out
}

func (r *runner) try(t *tree, s state) ways {
	a := r.run(t.kids[0], s)
	b := r.maybe(t.kids[1], a.errors)
	a.errors = nil
	w := ways{a.meet(b.leaving), join(a.end, b.end)}
	last := t.kids[2]
	if isNone(last.Expr) {
		return w
	}
	own := r.run(last, join(w.errors, w.returns, w.breaks, w.continues, w.end))
	q := r.silent()
	behind := func(s state) state { return q.run(last, s).end }
	onward := leaving{behind(w.errors), behind(w.returns), behind(w.breaks), behind(w.continues)}
	return ways{onward.meet(own.leaving), behind(w.end)}
}

// mayFail adds an error at a node that is reached in a state.
func (r *runner) mayFail(t *tree, w ways, s state) ways {
	r.faultIf(s != nil && !t.caught && !r.partial, ErrPartial, t)
	w.errors = join(w.errors, s)
	return w
}

func (r *runner) raise(t *tree, s state) ways { return r.mayFail(t, ways{}, s) }

func (r *runner) call(t *tree, s state) ways {
	w := r.inOrder(t.kids, s)
	if t.partial {
		w = r.mayFail(t, w, w.end)
	}
	return w
}

func (r *runner) leave(t *tree, s state) ways {
	w := r.inOrder(t.kids, s)
	r.faultIf(w.end != nil && !r.hasFields(w.end), ErrField, t)
	w.returns, w.end = join(w.returns, w.end), nil
	return w
}

// jump leaves a loop, or asks its condition again.
func (r *runner) jump(t *tree, s state) ways {
	switch {
	case !t.looped:
		r.fault(ErrLoop, t.path)
		return ways{}
	case t.Op == api.OpBreak:
		return ways{leaving: leaving{breaks: s}}
	}
	return ways{leaving: leaving{continues: s}}
}
