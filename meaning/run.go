package meaning

import (
	"slices"

	"hackamore/api"
	"hackamore/world"
)

// leaving is how an expression ends, if it does not end the whole run: Kind is Value, Error, Return, Break or Continue.
type leaving struct {
	kind  int
	value api.Value
}

func valued(v api.Value) leaving { return leaving{Value, v} }

func none() api.Value { return api.Value{Kind: api.ValUnit, Name: "None"} }

// stop is what ends a whole run: Empty or Wrong, with a code.
type stop struct {
	kind int
	code api.Errno
}

func empty(e api.Errno) { panic(stop{Empty, e}) }

func wrong(e api.Errno) { panic(stop{Wrong, e}) }

// must ends the run, if a function of the world returned an error: by a limit it is Empty.
func must(e api.Errno) {
	switch e {
	case api.OK:
	case api.ErrFull, api.ErrLarge, api.ErrDepth:
		empty(e)
	default:
		wrong(e)
	}
}

// run is what an actor does at once: left is its fuel, open in how many bodies it is.
type run struct {
	w          *world.World
	actor      int
	fuel, left int
	open       int
	operations map[int]operation
}

// limited returns a fuel that is not above, and not below, what a fuel may be.
func limited(fuel int) int { return max(0, min(fuel, api.MaxFuel)) }

func newRun(w *world.World, actor, fuel int) *run {
	fuel = limited(fuel)
	return &run{w: w, actor: actor, fuel: fuel, left: fuel, operations: operations()}
}

// outcome returns the outcome of what is done.
func (r *run) outcome(do func() leaving) (out Outcome) {
	defer func() {
		if x := recover(); x != nil {
			s, ok := x.(stop)
			if !ok {
				s = stop{Wrong, api.ErrState}
			}
			out = Outcome{Kind: s.kind, Code: s.code}
		}
		out.Used = r.fuel - r.left
	}()
	l := do()
	return Outcome{Kind: l.kind, Value: l.value}
}

// use uses 1 of the fuel.
func (r *run) use() {
	if r.left == 0 {
		empty(api.ErrSteps)
	}
	r.left--
}

// message lets the actor take a message, and runs the method with its name.
func (r *run) message() leaving {
	r.use()
	m, e := r.w.Take(r.actor)
	must(e)
	this := api.Value{Kind: api.ValActor, Lo: uint64(r.actor)}
	method, e := r.w.Method(r.w.Type(this), m.Name)
	if e != api.OK || method.Kind != api.Be && method.Kind != api.New {
		wrong(world.ErrMethod)
	}
	if len(method.Params) != len(m.Args) {
		wrong(api.ErrSize)
	}
	if !hasBody(method) {
		return r.native(this, m.Name, m.Args)
	}
	return r.runBody(method, this, m.Args)
}

func hasBody(m api.Method) bool { return m.Body.Op != 0 }

// call calls a method of a value.
func (r *run) call(receiver api.Value, name string, args []api.Value) leaving {
	typ := r.w.Type(receiver)
	if typ == "" {
		wrong(api.ErrType)
	}
	m, e := r.w.Method(typ, name)
	if e != api.OK || !hasBody(m) && m.Kind != api.Be {
		return r.native(receiver, name, args)
	}
	switch m.Kind {
	case api.Be:
		return r.send(receiver, m, args)
	case api.Fun:
		r.count(m, args)
		return r.runBody(m, receiver, args)
	}
	wrong(world.ErrMethod)
	return leaving{}
}

// count asks for as many arguments as a method has parameters.
func (r *run) count(m api.Method, args []api.Value) {
	if len(args) != len(m.Params) {
		wrong(api.ErrSize)
	}
}

// send sends a message to the receiver of a behaviour.
func (r *run) send(receiver api.Value, m api.Method, args []api.Value) leaving {
	if receiver.Kind != api.ValActor {
		wrong(api.ErrType)
	}
	r.count(m, args)
	r.post(receiver, m.Name, args)
	return valued(none())
}

// post puts a message into the mail of an actor.
func (r *run) post(to api.Value, name string, args []api.Value) {
	must(r.w.Send(api.Message{From: r.actor, To: int(to.Lo), Name: name, Args: args}))
}

// native calls a method that the runtime gives.
func (r *run) native(receiver api.Value, name string, args []api.Value) leaving {
	v, raised, e := r.w.Call(r.actor, receiver, name, args)
	must(e)
	if raised {
		return leaving{kind: Error}
	}
	return valued(v)
}

// runBody runs the body of a method.
func (r *run) runBody(m api.Method, this api.Value, args []api.Value) leaving {
	if r.open > MaxCalls {
		empty(api.ErrDepth)
	}
	var locals []Local
	for i, p := range m.Params {
		locals = append(locals, Local{p.Name, args[i]})
	}
	b := &body{run: r, this: this, locals: lastOnes(locals)}
	r.open++
	out := b.eval(m.Body)
	r.open--
	switch out.kind {
	case Error:
		if !m.Partial {
			wrong(api.ErrState)
		}
		return out
	case Break, Continue:
		wrong(api.ErrForm)
	}
	if m.Result.Kind == api.TypeName && m.Result.Name == none().Name {
		return valued(none())
	}
	return valued(out.value)
}

// lastOnes returns local variables, of several with one name the last one alone.
func lastOnes(l []Local) []Local {
	last := map[string]int{}
	for i, x := range l {
		last[x.Name] = i
	}
	l = slices.Clone(l)
	n := 0
	for i, x := range l {
		if last[x.Name] == i {
			l[n] = x
			n++
		}
	}
	return l[:n]
}
