package generic

import (
	"slices"
	"strings"

	"hackamore/api"
)

// flattener makes the types of what is needed flat.
type flattener struct{ least }

// noteTwice keeps an error for a name that is known.
func (f *flattener) noteTwice(known map[string]bool, name string) {
	if known[name] {
		f.note(api.ErrTwice)
	}
	known[name] = true
}

// mapped returns what f makes of the elements of a list.
func mapped[A, B any](l []A, f func(A) B) []B {
	var out []B
	for _, x := range l {
		out = append(out, f(x))
	}
	return out
}

func (f *flattener) entity(x *reified) api.Entity {
	e := x.Entity
	var methods []api.Method
	for i, m := range e.Methods {
		if !isOpen(m) {
			methods = append(methods, m)
			continue
		}
		l := x.variants[i]
		slices.SortFunc(l, func(a, b api.Method) int { return strings.Compare(a.Name, b.Name) })
		methods = append(methods, l...)
	}
	e.Provides = mapped(e.Provides, f.typ)
	e.Fields = mapped(e.Fields, f.field)
	e.Methods = mapped(methods, f.method)
	return e
}

func (f *flattener) field(x api.Field) api.Field {
	x.Type = f.typ(x.Type)
	return x
}

func (f *flattener) param(x api.Param) api.Param {
	x.Type = f.typ(x.Type)
	return x
}

func (f *flattener) method(m api.Method) api.Method {
	m.Params = mapped(m.Params, f.param)
	m.Result = f.typ(m.Result)
	m.Body = f.expr(m.Body)
	return m
}

func (f *flattener) typ(t api.Type) api.Type {
	if t.Kind == api.TypeName && len(t.Args) > 0 {
		t.Name = f.named(t.Name, t.Args)
		t.Args = nil
		return t
	}
	t.Args = mapped(t.Args, f.typ)
	return t
}

func (f *flattener) named(name string, args []api.Type) string {
	name, e := Named(name, args)
	f.note(e)
	return name
}

func (f *flattener) expr(x api.Expr) api.Expr {
	if args := methodArgs(x); len(args) > 0 {
		x.Text = f.named(x.Text, args)
		x.Types = x.Types[:len(x.Types)-len(args)]
	}
	x.Types = mapped(x.Types, f.typ)
	x.Kids = mapped(x.Kids, f.expr)
	return x
}
