package machine

import (
	"cmp"
	"slices"

	"hackamore/api"
	"hackamore/code"
	"hackamore/meaning"
	"hackamore/world"
)

// stop is what ends a whole run: Empty or Wrong, with a code.
type stop struct {
	kind int
	code api.Errno
}

func empty(e api.Errno) { panic(stop{meaning.Empty, e}) }

func wrong(e api.Errno) { panic(stop{meaning.Wrong, e}) }

// must ends the run, if a function of the world returned an error: by a limit it is Empty.
func must(e api.Errno) {
	switch e {
	case api.OK:
	case api.ErrFull, api.ErrLarge, api.ErrDepth:
		empty(e)
	default:
		wrong(e)
	}
}

// register has no value, or a value; of a Num the bits are Lo and Hi of it.
type register struct {
	isSet bool
	value api.Value
}

// activation is a function that is being run, and the index of its instruction that is next.
type activation struct {
	*function
	registers []register
	next      int
}

// result is a value, or an error that was raised.
type result struct {
	value  api.Value
	raised bool
}

// run is what an actor does at once: the activations stand on one another; last is what came of the first one.
type run struct {
	*machine
	w     *world.World
	actor int
	fuel  int
	left  int
	stack []activation
	last  result
}

// use uses 1 of the fuel.
func (r *run) use() {
	if r.left == 0 {
		empty(api.ErrSteps)
	}
	r.left--
}

// outcome tells how something ends.
func (r *run) outcome(do func() result) (out meaning.Outcome) {
	defer func() {
		if x := recover(); x != nil {
			s, ok := x.(stop)
			if !ok {
				s = stop{meaning.Wrong, api.ErrState}
			}
			out = meaning.Outcome{Kind: s.kind, Code: s.code}
		}
		out.Used = r.fuel - r.left
	}()
	x := do()
	if x.raised {
		return meaning.Outcome{Kind: meaning.Error}
	}
	return meaning.Outcome{Kind: meaning.Value, Value: x.value}
}

// step is Step with code that can be run.
func (m *machine) step(w *world.World, choice, fuel int) (used int, end meaning.End, ok bool) {
	actor, ok := w.Choose(choice)
	if !ok {
		return 0, rest(), false
	}
	r := m.newRun(w, actor, fuel)
	out := r.outcome(r.message)
	switch out.Kind {
	case meaning.Value:
		return out.Used, rest(), true
	case meaning.Empty:
		return out.Used, meaning.End{Kind: meaning.Fuel, Actor: actor, Code: out.Code}, true
	case meaning.Error:
		return out.Used, stuck(actor, api.ErrState), true
	}
	return out.Used, stuck(actor, out.Code), true
}

// message lets the actor take a message.
func (r *run) message() result {
	r.use()
	m, e := r.w.Take(r.actor)
	must(e)
	this := api.Value{Kind: api.ValActor, Lo: uint64(r.actor)}
	typ := r.w.Type(this)
	method, e := r.w.Method(typ, m.Name)
	switch {
	case e != api.OK || method.Kind != api.Be && method.Kind != api.New:
		wrong(world.ErrMethod)
	case len(method.Params) != len(m.Args):
		wrong(api.ErrSize)
	}
	function, ok := r.named[typ+"."+m.Name]
	if !ok {
		return r.given(this, m.Name, m.Args)
	}
	r.begin(function, append([]api.Value{this}, m.Args...))
	return r.whole()
}

// begin begins a function, above those that are being run.
func (r *run) begin(n int, values []api.Value) {
	f := r.function(n)
	if len(values) != f.Params {
		wrong(api.ErrSize)
	}
	if len(r.stack) > meaning.MaxCalls {
		empty(api.ErrDepth)
	}
	a := activation{function: f, registers: make([]register, len(f.Classes))}
	for i, v := range values {
		a.registers[i] = register{true, v}
	}
	r.stack = append(r.stack, a)
}

// given calls a method that the runtime gives.
func (r *run) given(receiver api.Value, method string, args []api.Value) result {
	v, raised, e := r.w.Call(r.actor, receiver, method, args)
	must(e)
	return result{v, raised}
}

// whole runs until the first one of the activations has ended.
func (r *run) whole() result {
	for len(r.stack) > 0 {
		r.use()
		a := &r.stack[len(r.stack)-1]
		x := &a.ins[a.next]
		r.do[x.Op](r, a, x)
	}
	return r.last
}

// end ends the last activation.
func (r *run) end(out result) {
	r.stack = r.stack[:len(r.stack)-1]
	if len(r.stack) == 0 {
		r.last = out
		return
	}
	r.deliver(out)
}

// deliver hands the last activation what comes of its call, and lets it go on.
func (r *run) deliver(out result) {
	a := &r.stack[len(r.stack)-1]
	x := &a.ins[a.next]
	switch {
	case !out.raised:
		a.put(x.A, out.value)
		a.next++
	case x.Raised >= 0:
		a.next = a.places[x.Raised]
	default:
		wrong(api.ErrState)
	}
}

// put gives a register a value, or bits.
func (a *activation) put(n int, v api.Value) { a.registers[n] = register{true, v} }

// bits returns those of a Num.
func (a *activation) bits(n int) api.Value {
	if !a.registers[n].isSet {
		wrong(world.ErrUnset)
	}
	return a.registers[n].value
}

// value returns that of an Any.
func (a *activation) value(n int) api.Value {
	v := a.registers[n]
	if !v.isSet || v.value.Kind == api.ValNone {
		wrong(world.ErrUnset)
	}
	return v.value
}

func (a *activation) values(l []int) []api.Value {
	var out []api.Value
	for _, n := range l {
		v := a.value(n)
		out = append(out, v)
	}
	return out
}

// lose takes the values of the registers away that the map of a safe point does not have.
func (r *run) lose(a *activation) {
	if !r.Poison {
		return
	}
	at := a.ins[a.next].At
	var live []int
	if n, ok := slices.BinarySearchFunc(a.Maps, at, func(m code.Map, at int) int { return cmp.Compare(m.At, at) }); ok {
		live = a.Maps[n].Live
	}
	for n, class := range a.Classes {
		if _, isKept := slices.BinarySearch(live, n); class == code.Any && !isKept {
			a.registers[n] = register{}
		}
	}
}
