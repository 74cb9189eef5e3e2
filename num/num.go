// Package num is layer 15: integers of all sizes and two kinds of floats. See shared/doc/15-num.md.
package num

import (
	"strings"

	"hackamore/api"
)

// The number types by their indices; their names are those of typeNames.
const (
	i8 = iota
	i16
	i32
	i64
	i128
	isize
	u8
	u16
	u32
	u64
	u128
	usize
	f32
	f64
	count
)

const boolName = "Bool"

func typeNames() [count]string {
	return [...]string{
		i8: "I8", i16: "I16", i32: "I32", i64: "I64", i128: "I128", isize: "ISize",
		u8: "U8", u16: "U16", u32: "U32", u64: "U64", u128: "U128", usize: "USize", f32: "F32", f64: "F64",
	}
}

// sizes are the numbers of bits of the types.
func sizes() [count]int {
	return [...]int{
		i8: 8, i16: 16, i32: 32, i64: 64, i128: 128, isize: 64,
		u8: 8, u16: 16, u32: 32, u64: 64, u128: 128, usize: 64, f32: 32, f64: 64,
	}
}

func isSigned(typ int) bool { return typ < u8 }

func isFloat(typ int) bool { return typ == f32 || typ == f64 }

func size(typ int) int { return sizes()[typ] }

// find returns the index of a number type.
func find(name string) (int, bool) {
	for i, n := range typeNames() {
		if n == name {
			return i, true
		}
	}
	return 0, false
}

// Types returns the names of the number types.
func Types() []string {
	l := typeNames()
	return l[:]
}

// Kind returns the kind of values of a number type (api.ValNumber and its index).
func Kind(typ string) (int, api.Errno) {
	i, ok := find(typ)
	if !ok {
		return 0, api.ErrNone
	}
	return api.ValNumber + i, api.OK
}

// Name returns the number type of a kind.
func Name(kind int) (string, api.Errno) {
	if !isNumber(kind) {
		return "", api.ErrNone
	}
	return typeNames()[kind-api.ValNumber], api.OK
}

func isNumber(kind int) bool { return kind >= api.ValNumber && kind < api.ValNumber+count }

// Of returns the integer of a type with given lower bits.
func Of(typ string, n uint64) (api.Value, api.Errno) {
	i, ok := find(typ)
	if !ok || isFloat(i) {
		return api.Value{}, api.ErrNone
	}
	return value(i, wide{lo: n}), api.OK
}

// value returns the integer of a type with the lower ones of some bits.
func value(typ int, w wide) api.Value {
	w = w.lower(size(typ))
	return api.Value{Kind: api.ValNumber + typ, Lo: w.lo, Hi: w.hi}
}

func boolean(b bool) api.Value {
	v := api.Value{Kind: api.ValBool}
	if b {
		v.Lo = 1
	}
	return v
}

// Check returns the error of a value as a number.
func Check(v api.Value) api.Errno {
	ok := v.Name == "" && len(v.Kids) == 0
	switch {
	case v.Kind == api.ValBool:
		ok = ok && v.Lo <= 1 && v.Hi == 0
	case isNumber(v.Kind):
		w := wide{v.Hi, v.Lo}
		ok = ok && w == w.lower(size(v.Kind-api.ValNumber)) && !strangeNaN(v)
	default:
		ok = false
	}
	if !ok {
		return api.ErrForm
	}
	return api.OK
}

// Signature is what a method of a number type takes and returns.
type Signature struct {
	Name    string
	Params  []string
	Result  string
	Partial bool
}

// Methods returns the methods of a number type, or of Bool.
func Methods(typ string) ([]Signature, api.Errno) {
	i, ok := find(typ)
	if !ok && typ != boolName {
		return nil, api.ErrNone
	}
	const numbers = "add+ sub+ mul+ div+ rem+ add_partial+ sub_partial+ mul_partial+ div_partial+ rem_partial+ neg eq+? ne+? lt+? le+? gt+? ge+? min+ max+ abs "
	const integers = "op_and+ op_or+ op_xor+ op_not shl+ shr+ popcount clz ctz"
	const floats = "sqrt floor ceil trunc round finite? nan?"
	list := "eq+ ne+ op_and+ op_or+ op_xor+ op_not"
	if ok {
		list = numbers + integers
		if isFloat(i) {
			list = numbers + floats
		}
	}
	var l []Signature
	for _, word := range strings.Fields(list) {
		l = append(l, signature(typ, word))
	}
	if ok {
		for _, to := range typeNames() {
			l = append(l, Signature{Name: strings.ToLower(to), Result: to})
		}
	}
	return append(l, Signature{Name: "string", Result: "String"}), api.OK
}

// signature reads the name of a method, with `+` behind it if it has a parameter, and `?` if its result is a Bool.
func signature(typ, word string) Signature {
	word, tells := strings.CutSuffix(word, "?")
	name, binary := strings.CutSuffix(word, "+")
	s := Signature{Name: name, Result: typ, Partial: strings.HasSuffix(name, "_partial")}
	if binary {
		s.Params = []string{typ}
	}
	if tells {
		s.Result = boolName
	}
	return s
}

// method computes: it reports whether it has a result. Without a parameter its second argument plays no part.
type method struct {
	binary bool
	run    func(x, y api.Value) (api.Value, bool)
}

// lookup returns a method of a type that Call does not refuse, and the kind of its operands.
func lookup(typ, name string) (m method, kind int, ok bool) {
	i, number := find(typ)
	switch {
	case typ == boolName:
		m, ok = boolMethod(name)
		return m, api.ValBool, ok
	case !number:
		return m, 0, false
	case i == f32:
		m, ok = single().method(i, name)
	case i == f64:
		m, ok = double().method(i, name)
	default:
		m, ok = integerMethod(i, name)
	}
	return m, api.ValNumber + i, ok
}

// Call calls a method of a number, or of a Bool: the receiver is the first argument.
func Call(typ, method string, args []api.Value) (result api.Value, raised bool, e api.Errno) {
	m, kind, ok := lookup(typ, method)
	if !ok {
		return api.Value{}, false, api.ErrNone
	}
	wanted := 1
	if m.binary {
		wanted = 2
	}
	if len(args) != wanted {
		return api.Value{}, false, api.ErrSize
	}
	for _, a := range args {
		if a.Kind != kind || Check(a) != api.OK {
			return api.Value{}, false, api.ErrType
		}
	}
	v, ok := m.run(args[0], args[wanted-1])
	if !ok {
		return api.Value{}, true, api.OK
	}
	return v, false, api.OK
}

func boolMethod(name string) (method, bool) {
	methods := map[string]func(x, y bool) bool{
		"eq":     func(x, y bool) bool { return x == y },
		"ne":     func(x, y bool) bool { return x != y },
		"op_and": func(x, y bool) bool { return x && y },
		"op_or":  func(x, y bool) bool { return x || y },
		"op_xor": func(x, y bool) bool { return x != y },
		"op_not": func(x, _ bool) bool { return !x },
	}
	f, ok := methods[name]
	return method{name != "op_not", func(x, y api.Value) (api.Value, bool) {
		return boolean(f(x.Lo == 1, y.Lo == 1)), true
	}}, ok
}

// unordered is what a comparison gives if one of both is not a number.
const unordered = 2

// comparison returns a method of the result of a comparison.
func comparison(name string) (func(c int) bool, bool) {
	methods := map[string]func(c int) bool{
		"eq": func(c int) bool { return c == 0 },
		"ne": func(c int) bool { return c != 0 },
		"lt": func(c int) bool { return c == -1 },
		"le": func(c int) bool { return c == -1 || c == 0 },
		"gt": func(c int) bool { return c == 1 },
		"ge": func(c int) bool { return c == 1 || c == 0 },
	}
	f, ok := methods[name]
	return f, ok
}

// target returns the type to which a method converts.
func target(name string) (int, bool) {
	for i, n := range typeNames() {
		if strings.ToLower(n) == name {
			return i, true
		}
	}
	return 0, false
}
