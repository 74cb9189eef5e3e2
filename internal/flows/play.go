package flows

import (
	"slices"
	"strconv"
	"strings"

	"hackamore/api"
	"hackamore/num"
	"hackamore/ssa"
)

// player plays functions: values are those of package api; objects have fields by their names; what a call does, and returns, is told by all that was done ahead.
type player struct {
	p       ssa.Program
	log     []string
	objects []map[string]api.Value
	shown   map[uint64]int // the numbers of objects by the order in which they are met
	left    int
	depth   int
}

// stopped is what a run leaves with.
type stopped string

// Play runs a function of a program with numbers: what is done, the last line being how it ends. It ends with `cut`, if it takes too many steps.
func Play(p ssa.Program, f ssa.Func, args []int) (log []string) {
	x := &player{p: p, shown: map[uint64]int{}, left: 400}
	defer func() {
		if e := recover(); e != nil {
			s, ok := e.(stopped)
			if !ok {
				panic(e)
			}
			log = append(x.log, string(s))
		}
	}()
	var l []api.Value
	for _, a := range args {
		l = append(l, number(a))
	}
	v, raised := x.run(f, l)
	if raised {
		return append(x.log, "error")
	}
	end := "value " + x.show(v, 0)
	return append(x.log, end)
}

// show returns the text of a value.
func (x *player) show(v api.Value, depth int) string {
	var l []string
	switch {
	case v.Kind == api.ValTuple:
		for _, k := range v.Kids {
			l = append(l, x.show(k, depth))
		}
		return "(" + strings.Join(l, " ") + ")"
	case v.Kind != api.ValObject:
		return strconv.Itoa(v.Kind) + ":" + strconv.Itoa(int(v.Lo)) + v.Name
	}
	n, ok := x.shown[v.Lo]
	if !ok {
		n = len(x.shown)
		x.shown[v.Lo] = n
	}
	if depth < 3 {
		for _, f := range []string{"f", "g"} {
			l = append(l, x.show(x.objects[v.Lo][f], depth+1))
		}
	}
	return "#" + strconv.Itoa(n) + "{" + strings.Join(l, " ") + "}"
}

// do puts what is done into the log, and returns a number that all that was done tells.
func (x *player) do(what string, args []api.Value) int {
	for _, a := range args {
		s := x.show(a, 0)
		what += " " + s
	}
	x.log = append(x.log, what)
	n := 0
	for _, c := range what + strconv.Itoa(len(x.log)) {
		n = (n*31 + int(c)) % 10007
	}
	return n
}

// frame is a function that is run.
type frame struct {
	values map[int]api.Value
	locals map[string]api.Value
}

func (f *frame) all(l []int) []api.Value {
	var out []api.Value
	for _, v := range l {
		out = append(out, f.values[v])
	}
	return out
}

// run runs a function: its value, or whether it ends with an error.
func (x *player) run(f ssa.Func, args []api.Value) (api.Value, bool) {
	x.depth++
	defer func() { x.depth-- }()
	if x.depth > 12 {
		panic(stopped("cut"))
	}
	r := &frame{map[int]api.Value{}, map[string]api.Value{}}
	for i, a := range args {
		r.values[i] = a
	}
	preds := Preds(f.Blocks)
	for b, edge := 0, 0; ; {
		x.block(r, f.Blocks[b], edge)
		if x.left--; x.left < 0 {
			panic(stopped("cut"))
		}
		end := f.Blocks[b].End
		way := 0
		switch end.Kind {
		case ssa.Return:
			return r.values[end.Args[0]], false
		case ssa.Error:
			return api.Value{}, true
		case ssa.Stuck:
			panic(stopped("stuck"))
		case ssa.Branch:
			if v := r.values[end.Args[0]]; v.Kind == api.ValObject || v.Lo%2 == 0 {
				way = 1
			}
		case ssa.Try:
			v, raised := x.call(end.Call, r.all(end.Call.Args))
			if raised {
				way = 1
			} else {
				r.values[end.Call.Result] = v
			}
		}
		to := end.To[way]
		edge = slices.Index(preds[to], b)
		if way == 1 && end.To[0] == to { // the second one of two edges from this block
			edge++
		}
		b = to
	}
}

// block runs the instructions of a block that was entered by an edge.
func (x *player) block(r *frame, b ssa.Block, edge int) {
	phis := map[int]api.Value{}
	for _, y := range b.Ins {
		if y.Op == ssa.Phi {
			phis[y.Result] = r.values[y.Args[edge]]
		}
	}
	for v, value := range phis {
		r.values[v] = value
	}
	for _, y := range b.Ins {
		if y.Op != ssa.Phi {
			v := x.ins(r, y, r.all(y.Args))
			r.values[y.Result] = v
		}
	}
}

func (x *player) ins(r *frame, y ssa.Ins, args []api.Value) api.Value {
	switch y.Op {
	case ssa.Const:
		return y.Lit
	case ssa.Text, ssa.Make:
		x.objects = append(x.objects, map[string]api.Value{"text": {Name: y.Text}})
		return api.Value{Kind: api.ValObject, Lo: uint64(len(x.objects) - 1)}
	case ssa.Load:
		return r.locals[y.Text]
	case ssa.Store:
		old := r.locals[y.Text]
		r.locals[y.Text] = args[0]
		return old
	case ssa.Get, ssa.Set:
		return x.field(y, args)
	case ssa.Native:
		v, _, _ := num.Call("U8", strings.TrimPrefix(y.Text, "U8."), args)
		return v
	case ssa.Tuple:
		v := api.Value{Kind: api.ValTuple, Kids: args}
		if parts(v) > maxParts { // tuples of tuples soon become too long to be told
			panic(stopped("cut"))
		}
		return v
	case ssa.Item:
		if y.N < len(args[0].Kids) {
			return args[0].Kids[y.N]
		}
		return api.Value{}
	case ssa.Is:
		return Boolean(same(args[0], args[1]))
	case ssa.Fits:
		return Boolean(args[0].Kind == api.ValNumber+6)
	}
	v, raised := x.call(y, args)
	if raised {
		panic(stopped("raised"))
	}
	return v
}

// maxParts is how many values a tuple may have.
const maxParts = 200

// parts returns how many values a value has; of one that has too many, at least so many.
func parts(v api.Value) int {
	n := 1
	for _, k := range v.Kids {
		if n += parts(k); n > maxParts {
			break
		}
	}
	return n
}

func same(a, b api.Value) bool {
	return a.Kind == b.Kind && a.Lo == b.Lo && a.Hi == b.Hi && a.Name == b.Name && slices.EqualFunc(a.Kids, b.Kids, same)
}

// field reads or writes a field; what is no object has none.
func (x *player) field(y ssa.Ins, args []api.Value) api.Value {
	if args[0].Kind != api.ValObject {
		return api.Value{}
	}
	o := x.objects[args[0].Lo]
	old := o[y.Text]
	if y.Op == ssa.Set {
		o[y.Text] = args[1]
	}
	return old
}

// call does what has an effect.
func (x *player) call(y ssa.Ins, args []api.Value) (api.Value, bool) {
	if y.Op == ssa.Direct {
		i := slices.IndexFunc(x.p.Funcs, func(f ssa.Func) bool { return f.Name == y.Text })
		v, raised := x.run(x.p.Funcs[i], args)
		return v, raised
	}
	n := x.do(strconv.Itoa(y.Op)+" "+y.Name+" "+y.Text, args)
	if y.Op == ssa.Call && n%5 == 0 {
		return api.Value{}, true
	}
	if n%3 == 0 {
		return Boolean(n%2 == 0), false
	}
	return number(n % 4), false
}
