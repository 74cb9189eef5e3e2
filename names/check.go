package names

import (
	"math"
	"slices"
	"strconv"

	"hackamore/api"
)

// Check returns the error of a program: of its form alone.
func Check(p []api.Entity) api.Errno {
	if len(p) > api.MaxUnits {
		return api.ErrFull
	}
	names := map[string]bool{}
	for _, e := range p {
		switch {
		case names[e.Name]:
			return api.ErrTwice
		case listsTooMuch(e):
			return api.ErrFull
		case !isEntity(e):
			return api.ErrForm
		}
		names[e.Name] = true
		for _, m := range e.Methods {
			if c := checkBody(m.Body); c != api.OK {
				return c
			}
		}
	}
	return api.OK
}

// listsTooMuch reports whether an entity, or one of its methods, lists more than may be.
func listsTooMuch(e api.Entity) bool {
	return max(len(e.Bounds), len(e.Provides), len(e.Fields), len(e.Methods)) > api.MaxList ||
		slices.ContainsFunc(e.Methods, func(m api.Method) bool { return max(len(m.Bounds), len(m.Params)) > api.MaxList })
}

func isCap(c int) bool { return c >= api.Iso && c <= api.Tag }

// all reports whether something holds for all elements of a list.
func all[T any](l []T, holds func(T) bool) bool {
	return !slices.ContainsFunc(l, func(x T) bool { return !holds(x) })
}

// isEntity reports whether an entity has the right form, but for its bodies.
func isEntity(e api.Entity) bool {
	return e.Kind >= api.Class && e.Kind <= api.Interface && e.Name != "" && isCap(e.Cap) && all(e.Bounds, isBound) && all(e.Provides, isType) &&
		all(e.Fields, func(f api.Field) bool { return f.Name != "" && isType(f.Type) }) && all(e.Methods, isMethod)
}

func isMethod(m api.Method) bool {
	return m.Kind >= api.New && m.Kind <= api.Be && m.Name != "" && isCap(m.Cap) && all(m.Bounds, isBound) &&
		all(m.Params, func(p api.Param) bool { return p.Name != "" && isType(p.Type) }) && isType(m.Result)
}

// isBound checks a type parameter, at the top of whose type a set of capabilities may stand.
func isBound(b api.Bound) bool {
	t := b.Type
	if (t.Kind == api.TypeName || t.Kind == api.TypeParam) && t.Cap >= api.CapRead && t.Cap <= api.CapAny {
		t.Cap = api.Tag
	}
	return b.Name != "" && isType(t)
}

func isType(t api.Type) bool {
	capped := t.Cap == api.CapNone || isCap(t.Cap)
	marked := t.Mark >= api.Plain && t.Mark <= api.Aliased
	bare := t.Name == "" && t.Cap == api.CapNone && t.Mark == api.Plain
	ok := false
	switch t.Kind {
	case api.TypeName:
		ok = t.Name != "" && isCap(t.Cap) && marked
	case api.TypeParam:
		ok = t.Name != "" && capped && marked && len(t.Args) == 0
	case api.TypeUnion, api.TypeBoth, api.TypeTuple:
		ok = bare && len(t.Args) >= 2
	case api.TypeArrow:
		ok = bare && len(t.Args) == 2 && (t.Args[0].Kind == api.TypeSelf || t.Args[0].Kind == api.TypeParam)
	case api.TypeSelf:
		ok = t.Name == "" && capped && marked && len(t.Args) == 0
	}
	return ok && all(t.Args, isType)
}

// checkBody returns the error of a body, of which none is right, too.
func checkBody(x api.Expr) api.Errno {
	left := api.MaxNodes
	switch {
	case isNone(x):
		return api.OK
	case !fits(x, 1, &left):
		return api.ErrSize
	case x.Op == api.OpCase || !isExpr(x):
		return api.ErrForm
	}
	return api.OK
}

func isNone(x api.Expr) bool {
	return x.Op == 0 && x.Text == "" && len(x.Types) == 0 && len(x.Kids) == 0
}

// fits reports whether an expression at a depth has not more nodes than are left, and is not too deep.
func fits(x api.Expr, depth int, left *int) bool {
	*left--
	if *left < 0 || depth > api.MaxTree {
		return false
	}
	return all(x.Kids, func(k api.Expr) bool { return fits(k, depth+1, left) })
}

// shape says how many Kids and Types an operation has, from and to a number (-1: any), and which form its Text has.
type shape struct{ kids, most, types, mostTypes, text int }

// Forms of Texts.
const (
	noText = iota
	anyText
	someText
	indexText
)

func shapes() [api.OpLast + 1]shape {
	return [...]shape{
		api.OpLit: {0, 0, 1, 1, anyText}, api.OpLocal: {0, 0, 0, 0, someText}, api.OpThis: {}, api.OpGet: {1, 1, 0, 0, someText},
		api.OpSet: {2, 2, 0, 0, someText}, api.OpVar: {0, 1, 1, 1, someText}, api.OpLet: {0, 1, 1, 1, someText},
		api.OpAssign: {1, 1, 0, 0, someText}, api.OpConsume: {0, 0, 0, 0, someText}, api.OpSeq: {0, -1, 0, 0, noText},
		api.OpIf: {3, 3, 0, 0, noText}, api.OpWhile: {3, 3, 0, 0, noText}, api.OpMatch: {1, -1, 0, 0, noText},
		api.OpCase: {2, 2, 1, 1, anyText}, api.OpTry: {3, 3, 0, 0, noText}, api.OpError: {}, api.OpReturn: {1, 1, 0, 0, noText},
		api.OpBreak: {}, api.OpContinue: {}, api.OpCall: {1, -1, 0, -1, someText}, api.OpNew: {0, -1, 1, -1, someText},
		api.OpRecover: {1, 1, 1, 1, noText}, api.OpTuple: {2, -1, 0, 0, noText}, api.OpItem: {1, 1, 0, 0, indexText},
		api.OpIs: {2, 2, 0, 0, noText}, api.OpUnit: {0, 0, 1, 1, noText},
	}
}

func between(n, least, most int) bool { return n >= least && (most < 0 || n <= most) }

func isExpr(x api.Expr) bool {
	if x.Op < 1 || x.Op > api.OpLast {
		return false
	}
	s := shapes()[x.Op]
	if !between(len(x.Kids), s.kids, s.most) || !between(len(x.Types), s.types, s.mostTypes) || !isText(s.text, x.Text) || !all(x.Types, isType) || !hasTypes(x) {
		return false
	}
	for i, k := range x.Kids {
		if x.Op == api.OpCase && i == 0 && isNone(k) {
			continue
		}
		if (k.Op == api.OpCase) != (x.Op == api.OpMatch && i > 0) || !isExpr(k) {
			return false
		}
	}
	return true
}

func isText(form int, s string) bool {
	switch form {
	case noText:
		return s == ""
	case someText:
		return s != ""
	case indexText:
		n, err := strconv.ParseUint(s, 10, 64)
		return err == nil && n <= math.MaxInt && strconv.FormatUint(n, 10) == s
	}
	return true
}

// hasTypes reports whether the types of an operation are of the kinds that it needs.
func hasTypes(x api.Expr) bool {
	switch x.Op {
	case api.OpLit:
		t := x.Types[0]
		return t.Kind == api.TypeName && (isNumber(t.Name) || t.Name == "Bool" || t.Name == "String")
	case api.OpNew, api.OpUnit:
		return x.Types[0].Kind == api.TypeName
	case api.OpRecover:
		return x.Types[0].Kind == api.TypeSelf && isCap(x.Types[0].Cap)
	}
	return true
}
