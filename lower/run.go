package lower

import (
	"strings"

	"hackamore/api"
	"hackamore/meaning"
	"hackamore/ssa"
	"hackamore/world"
)

// function is a function that can be run: its values are numbered in order; ways has, for each target of each end, the argument of phis there by which it is entered.
type function struct {
	ssa.Func
	size int
	ways [][]int
}

// functions are those of a program, by their names.
type functions map[string]*function

// functionsOf returns the functions of a program, if it is right.
func functionsOf(p ssa.Program) (functions, bool) {
	if _, e := ssa.Check(p); e != api.OK {
		return nil, false
	}
	fs := functions{}
	for _, f := range p.Funcs {
		clean, e := ssa.Clean(f)
		preds, e2 := ssa.Preds(f)
		uses, e3 := ssa.Uses(clean)
		if e != api.OK || e2 != api.OK || e3 != api.OK {
			return nil, false
		}
		fs[f.Name] = &function{clean, len(uses), waysOf(clean, preds)}
	}
	return fs, true
}

// waysOf returns, for each target of each block's end, its index among the predecessors there.
func waysOf(f ssa.Func, preds [][]int) [][]int {
	ways := make([][]int, len(f.Blocks))
	taken := make([]int, len(f.Blocks)) // how many of the predecessors of a block have come
	for b, x := range f.Blocks {
		for _, to := range x.End.To {
			ways[b] = append(ways[b], taken[to])
			taken[to]++
		}
	}
	return ways
}

// stop is what ends a whole run: Empty or Wrong, with a code.
type stop struct {
	kind int
	code api.Errno
}

func empty(e api.Errno) { panic(stop{meaning.Empty, e}) }

func wrong(e api.Errno) { panic(stop{meaning.Wrong, e}) }

// must ends the run, if a function of the world returned an error: by a limit it is Empty.
func must(e api.Errno) {
	switch e {
	case api.OK:
	case api.ErrFull, api.ErrLarge, api.ErrDepth:
		empty(e)
	default:
		wrong(e)
	}
}

func none() api.Value { return api.Value{Kind: api.ValUnit, Name: "None"} }

func orNone(v api.Value) api.Value {
	if v.Kind == api.ValNone {
		return none()
	}
	return v
}

func boolean(b bool) api.Value {
	v := api.Value{Kind: api.ValBool}
	if b {
		v.Lo = 1
	}
	return v
}

// activation is a function that is being run: the block, and the index of the instruction that is next.
type activation struct {
	*function
	values []api.Value
	locals map[string]api.Value
	block  int
	at     int
}

// outcome is a value, or an error that was raised.
type outcome struct {
	value  api.Value
	raised bool
}

// run is what an actor does at once: the activations stand on one another.
type run struct {
	w     *world.World
	fs    functions
	actor int
	left  int
	stack []*activation
	do    map[int]instruction
}

// step is Step with functions that can be run.
func step(fs functions, w *world.World, choice, fuel int) (used int, end meaning.End, ok bool) {
	actor, ok := w.Choose(choice)
	if !ok {
		return 0, rest(), false
	}
	fuel = limited(fuel)
	r := &run{w: w, fs: fs, actor: actor, left: fuel, do: instructions()}
	end = r.message()
	return fuel - r.left, end, true
}

// message lets the actor take a message, and tells how that ends.
func (r *run) message() (end meaning.End) {
	defer func() {
		if x := recover(); x != nil {
			s, ok := x.(stop)
			switch {
			case !ok:
				end = stuck(r.actor, api.ErrState)
			case s.kind == meaning.Empty:
				end = meaning.End{Kind: meaning.Fuel, Actor: r.actor, Code: s.code}
			default:
				end = stuck(r.actor, s.code)
			}
		}
	}()
	r.use()
	m, e := r.w.Take(r.actor)
	must(e)
	this := api.Value{Kind: api.ValActor, Lo: uint64(r.actor)}
	method, e := r.w.Method(r.w.Type(this), m.Name)
	switch {
	case e != api.OK || method.Kind != api.Be && method.Kind != api.New:
		wrong(world.ErrMethod)
	case len(method.Params) != len(m.Args):
		wrong(api.ErrSize)
	}
	if out := r.whole(append([]api.Value{this}, m.Args...), m.Name); out.raised {
		wrong(api.ErrState)
	}
	return rest()
}

// use uses 1 of the fuel.
func (r *run) use() {
	if r.left == 0 {
		empty(api.ErrSteps)
	}
	r.left--
}

// whole calls a method, and runs until it has ended.
func (r *run) whole(values []api.Value, method string) outcome {
	if out, begun := r.call(values, method); !begun {
		return out
	}
activations:
	for {
		a := r.stack[len(r.stack)-1]
		block := &a.Blocks[a.block]
		for a.at < len(block.Ins) {
			r.use()
			out, begun := r.ins(a, &block.Ins[a.at])
			if begun {
				continue activations
			}
			r.deliver(a, out)
		}
		r.use()
		out, isOver := r.end(a, block.End)
		if !isOver {
			continue activations
		}
		r.stack = r.stack[:len(r.stack)-1]
		if len(r.stack) == 0 {
			return out
		}
		r.deliver(r.stack[len(r.stack)-1], out)
	}
}

// deliver hands an activation what comes of its instruction, or of its try, and lets it go on.
func (r *run) deliver(a *activation, out outcome) {
	block := &a.Blocks[a.block]
	switch {
	case a.at == len(block.Ins) && out.raised:
		a.enter(1)
	case a.at == len(block.Ins):
		a.values[block.End.Call.Result] = out.value
		a.enter(0)
	case out.raised:
		wrong(api.ErrState)
	default:
		a.values[block.Ins[a.at].Result] = out.value
		a.at++
	}
}

// enter goes to a target of the end; all phis there take their values at once.
func (a *activation) enter(target int) {
	way := a.ways[a.block][target]
	a.block, a.at = a.Blocks[a.block].End.To[target], 0
	var taken []api.Value
	l := a.Blocks[a.block].Ins
	for i := 0; i < len(l) && l[i].Op == ssa.Phi; i++ {
		taken = append(taken, a.values[l[i].Args[way]])
	}
	for i, v := range taken {
		a.values[l[i].Result] = v
	}
}

// begin begins a function, above those that are being run.
func (r *run) begin(f *function, values []api.Value) {
	if len(values) != len(f.Params) {
		wrong(api.ErrSize)
	}
	if len(r.stack) > meaning.MaxCalls {
		empty(api.ErrDepth)
	}
	a := &activation{function: f, values: make([]api.Value, max(f.size, len(values))), locals: map[string]api.Value{}}
	copy(a.values, values)
	r.stack = append(r.stack, a)
}

// call calls a method of the first value; if it is a function, this has begun.
func (r *run) call(values []api.Value, method string) (out outcome, begun bool) {
	typ := r.w.Type(values[0])
	if typ == "" {
		wrong(api.ErrType)
	}
	if f, ok := r.fs[typ+"."+method]; ok {
		r.begin(f, values)
		return outcome{}, true
	}
	return r.native(values, method), false
}

// native calls a method that the runtime gives.
func (r *run) native(values []api.Value, method string) outcome {
	v, raised, e := r.w.Call(r.actor, values[0], method, values[1:])
	must(e)
	return outcome{v, raised}
}

// args returns the values of Args, each of which must have one.
func (a *activation) args(l []int) []api.Value {
	var out []api.Value
	for _, n := range l {
		v := a.values[n]
		if v.Kind == api.ValNone {
			wrong(world.ErrUnset)
		}
		out = append(out, v)
	}
	return out
}

// ins performs an instruction; it reports whether a function has begun, which it waits for.
func (r *run) ins(a *activation, x *ssa.Ins) (out outcome, begun bool) {
	switch x.Op {
	case ssa.Phi: // it has its value since the block was entered
		return outcome{value: a.values[x.Result]}, false
	case ssa.Store:
		old := a.locals[x.Text]
		a.locals[x.Text] = a.values[x.Args[0]]
		return outcome{value: orNone(old)}, false
	}
	values := a.args(x.Args)
	switch x.Op {
	case ssa.Call, ssa.Direct, ssa.Native:
		return r.calling(x, values)
	}
	return outcome{value: r.do[x.Op](r, x, values)}, false
}

// calling performs a Call, a Direct or a Native.
func (r *run) calling(x *ssa.Ins, values []api.Value) (out outcome, begun bool) {
	switch x.Op {
	case ssa.Call:
		return r.call(values, x.Text)
	case ssa.Direct:
		f, ok := r.fs[x.Text]
		if !ok {
			wrong(world.ErrMethod)
		}
		r.begin(f, values)
		return outcome{}, true
	}
	if len(values) == 0 {
		wrong(world.ErrBroken)
	}
	return r.native(values, x.Text[strings.LastIndexByte(x.Text, '.')+1:]), false
}

// end performs the end of a block; it reports whether the function has ended.
func (r *run) end(a *activation, x ssa.End) (out outcome, isOver bool) {
	values := a.args(x.Args)
	switch x.Kind {
	case ssa.Jump:
		a.enter(0)
	case ssa.Branch:
		if values[0].Kind != api.ValBool {
			wrong(api.ErrType)
		}
		target := 1
		if values[0].Lo == 1 {
			target = 0
		}
		a.enter(target)
	case ssa.Return:
		return outcome{value: values[0]}, true
	case ssa.Error:
		if !a.Partial {
			wrong(api.ErrState)
		}
		return outcome{raised: true}, true
	case ssa.Try:
		if out, begun := r.calling(&x.Call, a.args(x.Call.Args)); !begun {
			r.deliver(a, out)
		}
	default:
		wrong(api.ErrState)
	}
	return outcome{}, false
}

// instruction is what an instruction does with its values.
type instruction func(r *run, x *ssa.Ins, values []api.Value) api.Value

func instructions() map[int]instruction {
	return map[int]instruction{
		ssa.Const: (*run).constant, ssa.Text: (*run).text, ssa.Load: (*run).load, ssa.Get: (*run).get, ssa.Set: (*run).set, ssa.Make: (*run).create,
		ssa.Spawn: (*run).spawn, ssa.Send: (*run).send, ssa.Tuple: (*run).tuple, ssa.Item: (*run).item, ssa.Is: (*run).same, ssa.Fits: (*run).fits,
	}
}

func (r *run) constant(x *ssa.Ins, _ []api.Value) api.Value { return x.Lit }

func (r *run) text(x *ssa.Ins, _ []api.Value) api.Value {
	v, e := r.w.Text(r.actor, x.Text)
	must(e)
	return v
}

func (r *run) load(x *ssa.Ins, _ []api.Value) api.Value {
	v := r.stack[len(r.stack)-1].locals[x.Text]
	if v.Kind == api.ValNone {
		wrong(world.ErrUnset)
	}
	return v
}

// own asks that a value is no other actor than the one for whom the run is.
func (r *run) own(v api.Value) {
	if v.Kind == api.ValActor && v.Lo != uint64(r.actor) {
		wrong(api.ErrCap)
	}
}

func (r *run) get(x *ssa.Ins, values []api.Value) api.Value {
	r.own(values[0])
	v, e := r.w.Get(values[0], x.Text)
	must(e)
	return v
}

func (r *run) set(x *ssa.Ins, values []api.Value) api.Value {
	r.own(values[0])
	old, e := r.w.Set(values[0], x.Text, values[1])
	must(e)
	return orNone(old)
}

func (r *run) create(x *ssa.Ins, _ []api.Value) api.Value {
	if strings.HasPrefix(x.Text, "Array[") && strings.HasSuffix(x.Text, "]") {
		v, e := r.w.Array(r.actor, x.Text, nil)
		must(e)
		return v
	}
	v, e := r.w.Make(r.actor, x.Text)
	must(e)
	return v
}

func (r *run) spawn(x *ssa.Ins, values []api.Value) api.Value {
	entity, e := r.w.Entity(x.Name)
	m, e2 := r.w.Method(x.Name, x.Text)
	switch {
	case e != api.OK || entity.Kind != api.Actor || e2 != api.OK || m.Kind != api.New:
		wrong(world.ErrMethod)
	case len(m.Params) != len(values):
		wrong(api.ErrSize)
	}
	v, e := r.w.Spawn(x.Name)
	must(e)
	r.post(v, x.Text, values)
	return v
}

func (r *run) send(x *ssa.Ins, values []api.Value) api.Value {
	if values[0].Kind != api.ValActor {
		wrong(api.ErrType)
	}
	r.post(values[0], x.Text, values[1:])
	return none()
}

// post puts a message into the mail of an actor.
func (r *run) post(to api.Value, name string, args []api.Value) {
	must(r.w.Send(api.Message{From: r.actor, To: int(to.Lo), Name: name, Args: args}))
}

func (r *run) tuple(_ *ssa.Ins, values []api.Value) api.Value {
	return api.Value{Kind: api.ValTuple, Kids: values}
}

func (r *run) item(x *ssa.Ins, values []api.Value) api.Value {
	switch {
	case values[0].Kind != api.ValTuple:
		wrong(api.ErrType)
	case x.N >= len(values[0].Kids):
		wrong(api.ErrRange)
	}
	return values[0].Kids[x.N]
}

func (r *run) same(_ *ssa.Ins, values []api.Value) api.Value {
	return boolean(world.Same(values[0], values[1]))
}

func (r *run) fits(x *ssa.Ins, values []api.Value) api.Value {
	return boolean(r.w.Is(values[0], x.Type))
}
