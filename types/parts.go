package types

import (
	"hackamore/api"
	"hackamore/cap"
)

// What is done with arrows when parts are replaced.
const (
	keepArrows = iota
	openArrows // Args[1] stands for the arrow
	seeArrows  // what is seen through the first one stands for the arrow
)

// change says what a part with a capability and a mark becomes.
type change func(c, mark int) (int, int, api.Errno)

// counts returns what counts of a part's capability and mark.
func counts(t api.Type) int { return counted(t.Cap, t.Mark) }

func counted(c, mark int) int {
	switch {
	case c == api.Iso && mark == api.Aliased:
		return api.Tag
	case c == api.Trn && mark == api.Aliased:
		return api.Box
	}
	return c
}

// replace returns a right type whose parts are replaced, and the first error of one.
func replace(t api.Type, arrows int, f change) (api.Type, api.Errno) {
	var part func(t api.Type) (api.Type, api.Errno)
	part = func(t api.Type) (out api.Type, e api.Errno) {
		out = t
		switch t.Kind {
		case api.TypeArrow:
			return replaceArrow(t, arrows, part)
		case api.TypeUnion, api.TypeBoth, api.TypeTuple:
			out.Args = nil
			for _, a := range t.Args {
				x, e := part(a)
				if e != api.OK {
					return api.Type{}, e
				}
				out.Args = append(out.Args, x)
			}
			return out, api.OK
		}
		out.Args = clones(t.Args)
		out.Cap, out.Mark, e = f(t.Cap, t.Mark)
		return out, e
	}
	return part(t)
}

func replaceArrow(t api.Type, arrows int, part func(api.Type) (api.Type, api.Errno)) (api.Type, api.Errno) {
	inner, e := t.Args[1], api.OK
	if arrows == seeArrows {
		inner, e = seenFrom(t.Args[0], inner)
	}
	if e == api.OK {
		inner, e = part(inner)
	}
	if e != api.OK {
		return api.Type{}, e
	}
	if arrows == keepArrows {
		return api.Type{Kind: api.TypeArrow, Args: []api.Type{clone(t.Args[0]), inner}}, api.OK
	}
	return inner, api.OK
}

// seenFrom returns a type that is seen through the first one of an arrow.
func seenFrom(first, t api.Type) (api.Type, api.Errno) {
	if first.Cap == api.CapNone {
		return api.Type{}, api.ErrForm
	}
	return replace(t, seeArrows, seeing(counts(first)))
}

// known returns a change of parts with a capability, of which what counts is handed on; others are ErrForm.
func known(f func(c int) (int, int, bool)) change {
	return func(c, mark int) (int, int, api.Errno) {
		if c == api.CapNone {
			return 0, 0, api.ErrForm
		}
		c, mark, ok := f(counted(c, mark))
		if !ok {
			return 0, 0, api.ErrCap
		}
		return c, mark, api.OK
	}
}

func seeing(origin int) change {
	return known(func(c int) (int, int, bool) {
		seen, ok := cap.View(origin, c)
		return seen, api.Plain, ok
	})
}

func extracting(origin int) change {
	return known(func(c int) (int, int, bool) { return cap.Extract(origin, c) })
}

func recovering(wanted int) change {
	return known(func(c int) (int, int, bool) {
		r, ok := cap.Recover(c)
		switch {
		case wanted != api.CapNone:
			return wanted, api.Plain, ok && cap.Sub(r, wanted)
		case r == api.Iso:
			return r, api.Ephemeral, ok
		}
		return r, api.Plain, ok
	})
}

func setting(wanted int) change {
	return func(int, int) (int, int, api.Errno) { return wanted, api.Plain, api.OK }
}

// Changes that have no errors; those of parts without a capability are those of an iso.
const (
	aliasing = iota
	consuming
	holding // what a variable of the type has, when it is referred to again
)

// marking returns a change that is a step of references.
func marking(step int) change {
	steps := [...]func(c, mark int) (int, int){
		aliasing: cap.Alias, consuming: cap.Consumed,
		holding: func(c, mark int) (int, int) {
			if mark == api.Ephemeral {
				c, mark = cap.Alias(c, mark)
			}
			return cap.Alias(c, mark)
		},
	}
	f := steps[step]
	return func(c, mark int) (int, int, api.Errno) {
		if c == api.CapNone {
			_, mark = f(api.Iso, mark)
			return c, mark, api.OK
		}
		c, mark = f(c, mark)
		return c, mark, api.OK
	}
}

// changed returns a type whose parts are replaced, behind the error of the type, and that of an origin, or another capability.
func changed(t api.Type, arrows int, wrong bool, f change) (api.Type, api.Errno) {
	if e := Check(t); e != api.OK {
		return api.Type{}, e
	}
	if wrong {
		return api.Type{}, api.ErrCap
	}
	return result(replace(t, arrows, f))
}

// With returns a type whose capability is another one.
func With(t api.Type, c int) (api.Type, api.Errno) {
	return changed(t, openArrows, !cap.Is(c), setting(c))
}

// Aliased returns the type of a further reference.
func Aliased(t api.Type) (api.Type, api.Errno) {
	return changed(t, keepArrows, false, marking(aliasing))
}

// Consumed returns the type of what is given up.
func Consumed(t api.Type) (api.Type, api.Errno) {
	return changed(t, keepArrows, false, marking(consuming))
}

// Seen returns a type that is seen through an origin.
func Seen(origin int, t api.Type) (api.Type, api.Errno) {
	return changed(t, seeArrows, !cap.Is(origin), seeing(origin))
}

// Extracted returns the type of what a field had, when it is written through an origin.
func Extracted(origin int, t api.Type) (api.Type, api.Errno) {
	return changed(t, seeArrows, !cap.Is(origin), extracting(origin))
}

// Recovered returns the type of a recovered value.
func Recovered(t api.Type, c int) (api.Type, api.Errno) {
	return changed(t, seeArrows, c != api.CapNone && !cap.Is(c), recovering(c))
}

// eachPart reports whether something holds for all parts of a right type without arrows; each must have a capability.
func eachPart(t api.Type, holds func(c, mark int) bool) bool {
	if Check(t) != api.OK {
		return false
	}
	var ask func(t api.Type) bool
	ask = func(t api.Type) bool {
		switch t.Kind {
		case api.TypeArrow:
			return false
		case api.TypeUnion, api.TypeBoth, api.TypeTuple:
			for _, a := range t.Args {
				if !ask(a) {
					return false
				}
			}
			return true
		}
		return t.Cap != api.CapNone && holds(t.Cap, t.Mark)
	}
	return ask(t)
}

// Storable reports whether a value of a type may be written into a field through an origin.
func Storable(origin int, t api.Type) bool {
	return eachPart(t, func(c, mark int) bool { return cap.Store(origin, c, mark) })
}

// Sendable reports whether values of a type may be sent.
func Sendable(t api.Type) bool {
	return eachPart(t, func(c, mark int) bool { return cap.Sendable(counted(c, mark)) })
}
