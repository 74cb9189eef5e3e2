package subtype

import (
	"hackamore/api"
	"hackamore/cap"
	"hackamore/types"
)

// Method reports whether a method may stand in the place of another one.
func Method(p []api.Entity, a, b api.Method) bool {
	if len(p) > api.MaxUnits {
		return false
	}
	l, ok := questionsOf(a, b, false)
	if !ok {
		return false
	}
	k := newAsker(p)
	for _, next := range l {
		if _, ok := k.ask(question{pair: next}); !ok {
			return false
		}
	}
	return true
}

// questionsOf returns the questions of two methods; ok, if all holds that is not asked by questions.
func questionsOf(m, n api.Method, bare bool) (l []pair, ok bool) {
	if !haveOneForm(m, n) || !bare && !receiverFits(m, n) {
		return nil, false
	}
	mine := view{receiver: receiver(m)}
	other := view{receiver: receiver(n)}
	if len(n.Bounds) > 0 {
		other.rename(n.Bounds, m.Bounds)
	}
	for i, b := range n.Bounds {
		x, y := mine.see(m.Bounds[i].Type), other.see(b.Type)
		if !types.Equal(x, y) {
			return nil, false
		}
	}
	for i, p := range n.Params {
		x, y := other.see(p.Type), mine.see(m.Params[i].Type)
		l = append(l, pair{x, y})
	}
	switch zero := isZero(m.Result); {
	case zero != isZero(n.Result):
		return nil, false
	case !zero:
		x, y := mine.see(m.Result), other.see(n.Result)
		l = append(l, pair{x, y})
	}
	if mine.wrong || other.wrong {
		return nil, false
	}
	return l, true
}

func isZero(t api.Type) bool { return types.Equal(t, api.Type{}) }

func haveOneForm(m, n api.Method) bool {
	return m.Kind == n.Kind && m.Name == n.Name && len(m.Params) == len(n.Params) && len(m.Bounds) == len(n.Bounds) && (!m.Partial || n.Partial)
}

func receiverFits(m, n api.Method) bool {
	switch m.Kind {
	case api.Fun:
		return cap.Fits(n.Cap, api.Plain, m.Cap, api.Plain)
	case api.New:
		return cap.Fits(m.Cap, api.Ephemeral, n.Cap, api.Plain)
	}
	return true
}

// receiver is the capability by which the types of a method are seen.
func receiver(m api.Method) int {
	if m.Kind == api.Fun {
		return m.Cap
	}
	return api.Tag
}

// view is how the types of a method are seen: by its receiver, behind other names for its type parameters. wrong, if one had an error.
type view struct {
	receiver int
	names    []string
	params   []api.Type
	wrong    bool
}

func (v *view) rename(from, to []api.Bound) {
	v.names = boundNames(from)
	for _, b := range to {
		v.params = append(v.params, api.Type{Kind: api.TypeParam, Name: b.Name})
	}
}

func (v *view) see(t api.Type) api.Type {
	e := api.OK
	if v.names != nil {
		t, e = types.Subst(t, v.names, v.params)
	}
	if e == api.OK {
		t, e = types.Self(t, v.receiver, api.Plain)
	}
	v.wrong = v.wrong || e != api.OK
	return t
}
