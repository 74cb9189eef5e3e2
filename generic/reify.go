package generic

import (
	"cmp"
	"slices"
	"strings"

	"hackamore/api"
	"hackamore/subtype"
	"hackamore/types"
)

// least keeps the least of errors.
type least struct{ code api.Errno }

// note keeps an error; it reports whether there is one.
func (l *least) note(e api.Errno) bool {
	if e != api.OK && (l.code == api.OK || e < l.code) {
		l.code = e
	}
	return e != api.OK
}

// reified is a needed instance: of which entity, and the variants of each method that has type parameters. left is how many methods it may still get.
type reified struct {
	api.Entity
	place    int
	variants map[int][]api.Method
	left     int
}

func isOpen(m api.Method) bool { return len(m.Bounds) > 0 }

// demand is type arguments for which variants of a method are needed.
type demand struct {
	method string
	args   []api.Type
}

// key is what is needed: an instance of an entity with a place, or variants of a method with a name, and the name that they get.
type key struct {
	place        int
	method, name string
}

// reifier finds what is needed. What was not looked at yet waits in queues; made is the number of all instances.
type reifier struct {
	least
	p         []api.Entity
	places    map[string]int
	known     map[key]bool
	instances []*reified
	waiting   []*reified
	demands   []demand
	wanted    []demand
	made      int
	full      bool
}

// Reify returns the program without type parameters that an actor's constructor create reaches.
func Reify(p []api.Entity, main string) ([]api.Entity, api.Errno) {
	if !isSmall(p) {
		return nil, api.ErrSize
	}
	if !hasMain(p, main) {
		return nil, api.ErrNone
	}
	whole, e := Whole(p)
	if e != api.OK {
		return nil, e
	}
	if ends, _, _ := Ends(p); !ends {
		return nil, ErrGrow
	}
	r := newReifier(whole)
	r.run(main)
	switch {
	case r.full:
		return nil, api.ErrFull
	case r.code != api.OK:
		return nil, r.code
	}
	return r.program()
}

// hasMain reports whether there is an actor with a constructor create, both without type parameters.
func hasMain(p []api.Entity, main string) bool {
	i, e := subtype.Find(p, main)
	return e == api.OK && p[i].Kind == api.Actor && len(p[i].Bounds) == 0 && slices.ContainsFunc(p[i].Methods, func(m api.Method) bool {
		return m.Kind == api.New && m.Name == "create" && !isOpen(m)
	})
}

func newReifier(p []api.Entity) *reifier {
	r := &reifier{p: p, places: map[string]int{}, known: map[key]bool{}}
	for i, e := range slices.Backward(p) { // the first one with a name counts
		r.places[e.Name] = i
	}
	return r
}

// run looks for all that is needed, until nothing waits, or it is too much.
// A demand meets an instance when the later one of both is looked at.
func (r *reifier) run(main string) {
	r.need(main, nil)
	for i, e := range r.p {
		if r.places[e.Name] == i && !strings.Contains(e.Name, ".") && len(e.Bounds) == 0 {
			r.need(e.Name, nil)
		}
	}
	for !r.full {
		switch {
		case len(r.waiting) > 0:
			next := r.waiting[0]
			r.waiting = r.waiting[1:]
			r.look(next)
			r.instances = append(r.instances, next)
			for _, d := range r.demands {
				r.meet(next, d)
			}
		case len(r.wanted) > 0:
			d := r.wanted[0]
			r.wanted = r.wanted[1:]
			r.demands = append(r.demands, d)
			for _, x := range r.instances {
				r.meet(x, d)
			}
		default:
			return
		}
	}
}

// look looks at what an instance mentions.
func (r *reifier) look(x *reified) {
	for t := range ownTypes(x.Entity) {
		r.mention(t)
	}
	for _, m := range x.Methods {
		if !isOpen(m) {
			r.method(m)
		}
	}
}

// normals returns the normal forms of types, unless one has an error, which is kept.
func (r *reifier) normals(l []api.Type) ([]api.Type, bool) {
	var out []api.Type
	for _, t := range l {
		n, e := types.Normal(t)
		if r.note(e) {
			return nil, false
		}
		out = append(out, n)
	}
	return out, true
}

// need adds an instance of an entity that is there, for as many arguments as it has parameters.
func (r *reifier) need(entity string, args []api.Type) {
	args, ok := r.normals(args)
	if !ok {
		return
	}
	i := r.places[entity]
	name, e := Named(entity, args)
	at := key{place: i, name: name}
	if r.known[at] {
		return
	}
	unnamed := r.note(e)
	r.known[at] = !unnamed
	x, e := instance(r.p, r.p[i], args)
	if r.note(e) || unnamed {
		return
	}
	closed := 0
	for _, m := range x.Methods {
		if !isOpen(m) {
			closed++
		}
	}
	next := &reified{x, i, map[int][]api.Method{}, api.MaxList - closed}
	r.waiting = append(r.waiting, next)
	r.made++
	r.full = r.full || next.left < 0 || r.made > api.MaxUnits
}

// mention looks at a type that something needed mentions.
func (r *reifier) mention(t api.Type) {
	switch t.Kind {
	case api.TypeParam:
		r.note(ErrUnbound)
	case api.TypeName:
		i, ok := r.places[t.Name]
		if !ok {
			r.note(api.ErrNone)
			return
		}
		if len(r.p[i].Bounds) != len(t.Args) {
			r.note(api.ErrArg)
			return
		}
		r.need(t.Name, t.Args)
	}
	for _, a := range t.Args {
		r.mention(a)
	}
}

// method looks at a needed method without type parameters.
func (r *reifier) method(m api.Method) {
	for t := range methodTypes(m) {
		r.mention(t)
	}
	for x := range exprs(m.Body) {
		if args := methodArgs(x); len(args) > 0 {
			r.demand(x.Text, args)
		}
	}
}

// methodArgs returns the type arguments of the method that an expression calls.
func methodArgs(x api.Expr) []api.Type {
	switch {
	case x.Op == api.OpCall:
		return x.Types
	case x.Op == api.OpNew && len(x.Types) > 1:
		return x.Types[1:]
	}
	return nil
}

// demand asks for the variants of all methods with a name.
func (r *reifier) demand(method string, args []api.Type) {
	args, ok := r.normals(args)
	if !ok {
		return
	}
	name, e := Named(method, args)
	at := key{-1, method, name}
	if r.note(e) || r.known[at] {
		return
	}
	r.known[at] = true
	r.wanted = append(r.wanted, demand{method, args})
}

// meet adds the variants that an instance has for a demand.
func (r *reifier) meet(x *reified, d demand) {
	for i, m := range x.Methods {
		if r.full || !isOpen(m) || m.Name != d.method || fulfils(r.p, m.Bounds, d.args) != api.OK {
			continue
		}
		v, e := Variant(m, d.args)
		if r.note(e) {
			continue
		}
		x.variants[i] = append(x.variants[i], v)
		x.left--
		r.full = x.left < 0
		r.method(v)
	}
}

// program returns what was found.
func (r *reifier) program() ([]api.Entity, api.Errno) {
	slices.SortFunc(r.instances, func(a, b *reified) int {
		return cmp.Or(cmp.Compare(a.place, b.place), strings.Compare(a.Name, b.Name))
	})
	f := &flattener{}
	names := map[string]bool{}
	var out []api.Entity
	for _, x := range r.instances {
		f.noteTwice(names, x.Name)
		out = append(out, f.entity(x))
	}
	if f.code != api.OK {
		return nil, f.code
	}
	return out, api.OK
}
