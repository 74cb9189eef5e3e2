package world

import (
	"slices"
	"strings"

	"hackamore/api"
	"hackamore/num"
)

// Types of parameters, one letter for each.
const (
	indexParam = 'i' // a USize
	textParam  = 's' // a String
	anyParam   = 'x'
)

// call is a call of a method of the runtime.
type call struct {
	w        *World
	actor    int
	receiver api.Value
	args     []api.Value
}

// answer is what a call gives: a value, or an error that it raised, or a code.
type answer struct {
	value  api.Value
	raised bool
	code   api.Errno
}

// native is a method of the runtime: the types of its parameters, and what it does.
type native struct {
	params string
	run    func(*call) answer
}

// Call calls a method that is given by the runtime: its result, and whether it raised an error.
func (w *World) Call(actor int, receiver api.Value, name string, args []api.Value) (api.Value, bool, api.Errno) {
	if e := w.askActor(actor); e != api.OK {
		return api.Value{}, false, e
	}
	if !w.isThere(receiver) || !w.areThere(args) {
		return api.Value{}, false, ErrBroken
	}
	c := &call{w, actor, receiver, args}
	if isNumber(receiver) && name != "string" {
		return num.Call(w.Type(receiver), name, append([]api.Value{receiver}, args...))
	}
	m, ok := w.natives(receiver)[name]
	if !ok {
		return api.Value{}, false, ErrMethod
	}
	if e := c.ask(m.params); e != api.OK {
		return api.Value{}, false, e
	}
	a := m.run(c)
	return a.value, a.raised, a.code
}

// ask returns the error of the arguments.
func (c *call) ask(params string) api.Errno {
	if len(c.args) != len(params) {
		return api.ErrSize
	}
	for i, p := range params {
		v := c.args[i]
		if p == indexParam && v.Kind != indexKind() || p == textParam && !c.w.isText(v) {
			return api.ErrType
		}
	}
	return api.OK
}

// isNumber reports whether a right value is a number or a Bool.
func isNumber(v api.Value) bool { return v.Kind == api.ValBool || v.Kind >= api.ValNumber }

func indexKind() int {
	kind, _ := num.Kind("USize")
	return kind
}

// isText reports whether a right value is a String.
func (w *World) isText(v api.Value) bool { return v.Kind == api.ValObject && isString(w.Type(v)) }

// natives returns the methods of the runtime that a right value has.
func (w *World) natives(v api.Value) map[string]native {
	switch {
	case isNumber(v):
		return map[string]native{"string": {"", (*call).numberText}}
	case v.Kind == api.ValUnit && v.Name == none().Name:
		return map[string]native{"string": {"", (*call).noneText}}
	case v.Kind == api.ValActor && v.Lo == 0:
		return map[string]native{"print": {"s", (*call).print}}
	case w.isText(v):
		return textMethods()
	case v.Kind == api.ValObject && isArray(w.Type(v)):
		return arrayMethods()
	}
	return nil
}

func textMethods() map[string]native {
	compared := func(holds func(c int) bool) native {
		return native{"s", func(c *call) answer {
			return answer{value: boolean(holds(strings.Compare(c.bytes(), c.argument(0))))}
		}}
	}
	return map[string]native{
		"size":      {"", (*call).countBytes},
		"apply":     {"i", (*call).byteAt},
		"add":       {"s", (*call).joined},
		"substring": {"ii", (*call).substring},
		"string":    {"", (*call).itself},
		"eq":        compared(func(c int) bool { return c == 0 }),
		"ne":        compared(func(c int) bool { return c != 0 }),
		"lt":        compared(func(c int) bool { return c < 0 }),
		"le":        compared(func(c int) bool { return c <= 0 }),
		"gt":        compared(func(c int) bool { return c > 0 }),
		"ge":        compared(func(c int) bool { return c >= 0 }),
	}
}

func arrayMethods() map[string]native {
	return map[string]native{
		"size":   {"", (*call).countElements},
		"apply":  {"i", (*call).elementAt},
		"update": {"ix", (*call).update},
		"push":   {"x", (*call).push},
		"pop":    {"", (*call).pop},
	}
}

// none is the unit None, which methods return also where the program has none.
func none() api.Value { return api.Value{Kind: api.ValUnit, Name: "None"} }

func boolean(b bool) api.Value {
	v := api.Value{Kind: api.ValBool}
	if b {
		v.Lo = 1
	}
	return v
}

// integer returns the number of a type with a value.
func integer(typ string, n int) answer {
	v, e := num.Of(typ, uint64(n))
	return answer{value: v, code: e}
}

// cell returns the object that is the receiver.
func (c *call) cell() *api.Cell { return &c.w.state.Cells[c.receiver.Lo] }

// bytes returns those of the receiver, argument those of an argument: both are Strings.

func (c *call) bytes() string { return c.cell().Bytes }

func (c *call) argument(i int) string { return c.w.state.Cells[c.args[i].Lo].Bytes }

// index returns an argument as an index of a list; false, if it has no such element.
func (c *call) index(n int) (int, bool) {
	i := c.args[0].Lo
	if i >= uint64(n) {
		return 0, false
	}
	return int(i), true
}

// text makes a String.
func (c *call) text(bytes string) answer {
	v, e := c.w.Text(c.actor, bytes)
	return answer{value: v, code: e}
}

func (c *call) numberText() answer {
	s, e := num.Text(c.receiver)
	if e != api.OK {
		return answer{code: e}
	}
	return c.text(s)
}

func (c *call) noneText() answer { return c.text(c.receiver.Name) }

func (c *call) print() answer {
	s := &c.w.state
	if len(s.Output) >= api.MaxFuel {
		return answer{code: api.ErrFull}
	}
	s.Output = append(s.Output, c.argument(0))
	return answer{value: none()}
}

func (c *call) itself() answer { return answer{value: c.receiver} }

func (c *call) countBytes() answer { return integer("USize", len(c.bytes())) }

func (c *call) byteAt() answer {
	s := c.bytes()
	i, ok := c.index(len(s))
	if !ok {
		return answer{raised: true}
	}
	return integer("U8", int(s[i]))
}

func (c *call) joined() answer { return c.text(c.bytes() + c.argument(0)) }

func (c *call) substring() answer {
	s := c.bytes()
	n := uint64(len(s))
	from, to := min(c.args[0].Lo, n), min(c.args[1].Lo, n)
	if from > to {
		from = to
	}
	return c.text(s[from:to])
}

func (c *call) countElements() answer { return integer("USize", len(c.cell().Fields)) }

func (c *call) elementAt() answer {
	l := c.cell().Fields
	i, ok := c.index(len(l))
	if !ok {
		return answer{raised: true}
	}
	return answer{value: copied(l[i])}
}

func (c *call) update() answer {
	l := c.cell().Fields
	i, ok := c.index(len(l))
	if !ok {
		return answer{raised: true}
	}
	old := l[i]
	l[i] = copied(c.args[1])
	return answer{value: old}
}

func (c *call) push() answer {
	a := c.cell()
	if len(a.Fields) >= MaxElements {
		return answer{code: api.ErrFull}
	}
	a.Fields = append(a.Fields, copied(c.args[0]))
	return answer{value: none()}
}

func (c *call) pop() answer {
	a := c.cell()
	if len(a.Fields) == 0 {
		return answer{raised: true}
	}
	last := len(a.Fields) - 1
	old := a.Fields[last]
	a.Fields = slices.Delete(a.Fields, last, last+1)
	return answer{value: old}
}
