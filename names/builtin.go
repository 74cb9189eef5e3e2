package names

import (
	"iter"
	"slices"
	"strings"

	"hackamore/api"
	"hackamore/num"
	"hackamore/parser"
)

// The modules of the builtin package ahead of the number types, and behind them.
const (
	first = `interface tag Any
interface box Stringable
  fun box string(): String val
interface ref Iterator[A: Any #any]
  fun ref has_next(): Bool val
  fun ref next(): A^ ?
primitive val None
  fun box string(): String val
primitive val Bool
  fun box eq(that: Bool val): Bool val
  fun box ne(that: Bool val): Bool val
  fun box op_and(that: Bool val): Bool val
  fun box op_or(that: Bool val): Bool val
  fun box op_xor(that: Bool val): Bool val
  fun box op_not(): Bool val
  fun box string(): String val
`
	last = `class val String
  fun box size(): USize val
  fun box apply(i: USize val): U8 val ?
  fun box add(that: String box): String val
  fun box eq(that: String box): Bool val
  fun box ne(that: String box): Bool val
  fun box lt(that: String box): Bool val
  fun box le(that: String box): Bool val
  fun box gt(that: String box): Bool val
  fun box ge(that: String box): Bool val
  fun box substring(from: USize val, to: USize val): String val
  fun box string(): String val
class ref Array[A: Any #any]
  new ref create()
  fun box size(): USize val
  fun box apply(i: USize val): this->A! ?
  fun ref update(i: USize val, value: A): A^ ?
  fun ref push(value: A): None val
  fun ref pop(): A^ ?
class ref Range
  var _at: USize val
  let _end: USize val
  new ref create(from: USize val, to: USize val) =>
    this._at = from
    this._end = to
    this
  fun ref has_next(): Bool val =>
    this._at.lt(this._end)
  fun ref next(): USize val ? =>
    if this._at.lt(this._end) then
      this._at = this._at.add(1)
    else
      error
    end
primitive val AmbientAuth
actor tag Out
  be tag print(text: String val)
class val Env
  let out: Out tag
  let args: Array[String val] val
  let root: AmbientAuth val
`
)

// Builtin returns the texts of the modules of the builtin package.
func Builtin() []string {
	l := []string{first}
	for e := range numbers() {
		l = append(l, numberText(e))
	}
	return append(l, last)
}

// numbers hands on the entities of the number types.
func numbers() iter.Seq[api.Entity] {
	return func(yield func(api.Entity) bool) {
		for _, typ := range num.Types() {
			if !yield(number(typ)) {
				return
			}
		}
	}
}

// number is what Resolve makes of numberText. It is made directly, as each program has all number types.
func number(typ string) api.Entity {
	made := named(typ, api.Val)
	made.Mark = api.Ephemeral
	e := api.Entity{Kind: api.Primitive, Name: typ, Cap: api.Val}
	e.Methods = []api.Method{{Kind: api.New, Name: "create", Cap: api.Val, Params: []api.Param{{Name: "value", Type: named(typ, api.Val)}}, Result: made}}
	methods, _ := num.Methods(typ)
	for _, s := range methods {
		m := api.Method{Kind: api.Fun, Name: s.Name, Cap: api.Box, Result: named(s.Result, api.Val), Partial: s.Partial}
		for _, p := range s.Params {
			m.Params = append(m.Params, api.Param{Name: "that", Type: named(p, api.Val)})
		}
		e.Methods = append(e.Methods, m)
	}
	return e
}

func numberText(e api.Entity) string {
	var b strings.Builder
	b.WriteString("primitive val " + e.Name + "\n")
	for _, m := range e.Methods {
		var params []string
		for _, p := range m.Params {
			params = append(params, p.Name+": "+p.Type.Name+" val")
		}
		line := m.Name + "(" + strings.Join(params, ", ") + ")"
		if m.Kind == api.New {
			line = "new val " + line
		} else {
			line = "fun box " + line + ": " + m.Result.Name + " val"
		}
		if m.Partial {
			line += " ?"
		}
		b.WriteString("  " + line + "\n")
	}
	return b.String()
}

// named is the type of an entity without type arguments.
func named(name string, c int) api.Type { return api.Type{Kind: api.TypeName, Name: name, Cap: c} }

// builtin returns the tree of a module of the builtin package.
func builtin(text string) api.Node {
	n, _, _ := parser.Parse(text)
	return n
}

func isNumber(name string) bool { return slices.Contains(num.Types(), name) }
