package flow

import "maps"

// variable is a local variable, or a field.
type variable struct {
	isField bool
	name    string
}

func local(name string) variable { return variable{false, name} }
func field(name string) variable { return variable{true, name} }

// bits say what becomes of a variable on some way: whether it has a value behind it, if it had none, or one, ahead of it;
// and whether it may have been assigned behind it, if it had not, or may have been, ahead of it.
type bits uint8

const (
	valueOfNone bits = 1 << iota
	valueOfOne
	assignedOfNone
	assignedOfOne

	hasValue   = valueOfNone | valueOfOne
	isAssigned = assignedOfNone | assignedOfOne
	same       = valueOfOne | assignedOfOne
)

// state is what became of variables on the way from the beginning; of those that it does not have all is the same.
// No state (nil) is that of a way that is never reached.
type state map[variable]bits

func (s state) of(v variable) bits {
	if b, ok := s[v]; ok {
		return b
	}
	return same
}

// hasValue and isAssigned are for a state on a way from where no variable had a value, and none was assigned.
func (s state) hasValue(v variable) bool   { return s.of(v)&valueOfNone != 0 }
func (s state) isAssigned(v variable) bool { return s.of(v)&assignedOfNone != 0 }

// set returns a state in which a variable has a value, and was assigned.
func (s state) set(v variable) state { return s.with(v, hasValue|isAssigned) }

// unset returns a state in which a variable has no value.
func (s state) unset(v variable) state { return s.with(v, s.of(v)&isAssigned) }

func (s state) with(v variable, b bits) state {
	if s == nil {
		return nil
	}
	s = maps.Clone(s)
	s[v] = b
	return s
}

// join returns the state where ways meet.
func join(l ...state) state {
	var out state
	meet := func(s state, v variable) {
		a, b := out.of(v), s.of(v)
		out[v] = a&b&hasValue | (a|b)&isAssigned
	}
	for _, s := range l {
		switch {
		case s == nil:
		case out == nil:
			out = maps.Clone(s)
		default:
			known := maps.Clone(out)
			for v := range known {
				meet(s, v)
			}
			for v := range s {
				if _, ok := known[v]; !ok {
					meet(s, v)
				}
			}
		}
	}
	return out
}

// then returns the state behind a way that begins in a state.
func (s state) then(way state) state {
	if s == nil || way == nil {
		return nil
	}
	out := maps.Clone(s)
	for v, b := range way {
		out[v] = s.of(v).then(b)
	}
	return out
}

// then returns the bits behind two ways, one after the other.
func (a bits) then(b bits) bits {
	choose := func(from, none, one bits) bits {
		if a&from != 0 {
			none = one
		}
		if b&none != 0 {
			return from
		}
		return 0
	}
	return choose(valueOfNone, valueOfNone, valueOfOne) | choose(valueOfOne, valueOfNone, valueOfOne) |
		choose(assignedOfNone, assignedOfNone, assignedOfOne) | choose(assignedOfOne, assignedOfNone, assignedOfOne)
}

// leaving has the states in which something leaves an expression ahead of its end.
type leaving struct{ errors, returns, breaks, continues state }

// ways has the states in which an expression is left.
type ways struct {
	leaving
	end state
}

// meet returns what leaves one of two expressions.
func (l leaving) meet(m leaving) leaving {
	return leaving{join(l.errors, m.errors), join(l.returns, m.returns), join(l.breaks, m.breaks), join(l.continues, m.continues)}
}

// from returns the ways of an expression that is reached in a state, if these are those from any state.
func (w ways) from(s state) ways {
	return ways{leaving{s.then(w.errors), s.then(w.returns), s.then(w.breaks), s.then(w.continues)}, s.then(w.end)}
}
