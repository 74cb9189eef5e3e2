package lower

import (
	"strconv"

	"hackamore/api"
	"hackamore/internal/same"
	"hackamore/ssa"
)

// variable is what a body does with a local variable: its name in the function, and the type with which it is declared (the zero type, if there are several); the parameter that has its name.
type variable struct {
	name     string
	typ      api.Type
	param    int
	stored   bool
	emptied  bool // it may lose its value, or be declared without one
	assigned bool
}

// shadow is the name of what has the variable's value, or None if it has none: what is assigned to is asked for that.
func (v *variable) shadow() string { return v.name + ".old" }

func (v *variable) hasShadow() bool { return v.emptied && v.assigned }

// lowerer lowers a body: around are the ways out of what surrounds an expression, and aside the operations.
type lowerer struct {
	*builder
	*facts
	method    api.Method
	variables map[string]*variable
	around    []way
	failed    *label // where the whole function ends with an error
	temps     int
	aside     map[int]operation
}

// lowered returns the function of a method.
func lowered(f *facts, entity string, m api.Method) (out ssa.Func, e api.Errno) {
	defer func() {
		if x := recover(); x != nil {
			out, e = ssa.Func{}, ErrLower
		}
	}()
	l := &lowerer{builder: &builder{blocks: make([]ssa.Block, 1)}, facts: f, method: m, variables: map[string]*variable{}, failed: newLabel(), aside: operations()}
	out = ssa.Func{Name: entity + "." + m.Name, Params: []api.Type{named(entity, m.Cap)}, Result: m.Result, Partial: m.Partial}
	for _, p := range m.Params {
		out.Params = append(out.Params, p.Type)
	}
	for _, t := range out.Params {
		l.value(t)
	}
	l.declareAll()
	l.giveBack(l.eval(m.Body, true))
	l.enter(l.failed)
	l.end(ssa.End{Kind: ssa.Error})
	l.storeEarly()
	l.useNatives()
	out.Blocks = l.blocks
	out, e = ssa.Clean(out)
	if e != api.OK {
		return ssa.Func{}, ErrLower
	}
	return out, api.OK
}

// declareAll finds the variables of the body, and stores the parameters that do not keep their values.
func (l *lowerer) declareAll() {
	for i, p := range l.method.Params {
		v := l.variable(p.Name) // of two with one name the last one counts
		v.typ, v.param = p.Type, i+1
	}
	l.find(l.method.Body)
	for i, p := range l.method.Params {
		if v := l.variables[p.Name]; v.param == i+1 && v.stored {
			l.store(v, i+1)
		}
	}
}

// find finds what an expression does with variables.
func (l *lowerer) find(e api.Expr) {
	switch e.Op {
	case api.OpVar, api.OpLet:
		v := l.declared(e.Text, e.Types[0])
		v.emptied = v.emptied || len(e.Kids) == 0
	case api.OpCase:
		if e.Text != "" {
			l.declared(e.Text, e.Types[0])
		}
	case api.OpAssign:
		v := l.variable(e.Text)
		v.stored, v.assigned = true, true
	case api.OpConsume:
		v := l.variable(e.Text)
		v.stored, v.emptied = true, true
	}
	for _, k := range e.Kids {
		l.find(k)
	}
}

// variable returns a variable that is used; it may never be declared.
func (l *lowerer) variable(name string) *variable {
	v, ok := l.variables[name]
	if !ok {
		v = &variable{name: "v" + strconv.Itoa(len(l.variables)), param: nowhere}
		l.variables[name] = v
	}
	return v
}

// declared returns a variable that is declared with a type.
func (l *lowerer) declared(name string, t api.Type) *variable {
	_, known := l.variables[name]
	v := l.variable(name)
	if !known || !v.stored && v.param == nowhere {
		v.typ = t
	} else if !same.Type(v.typ, t) {
		v.typ = api.Type{}
	}
	v.stored = true
	return v
}

// store stores a value in a variable; it returns what this had, which is to be used only if there is no shadow.
func (l *lowerer) store(v *variable, value int) int {
	if v.hasShadow() {
		l.ins(ssa.Ins{Op: ssa.Store, Text: v.shadow(), Args: []int{value}})
	}
	return l.put(v.name, v.typ, value)
}

// put stores a value in what has a name.
func (l *lowerer) put(name string, t api.Type, value int) int {
	return l.ins(ssa.Ins{Op: ssa.Store, Text: name, Type: t, Args: []int{value}})
}

// empty takes the value of a variable away.
func (l *lowerer) empty(v *variable) {
	if v.hasShadow() {
		l.ins(ssa.Ins{Op: ssa.Store, Text: v.shadow(), Args: []int{l.none()}})
	}
	l.put(v.name, v.typ, l.constant(api.Value{}, api.Type{}))
}

func (l *lowerer) load(name string, t api.Type) int {
	return l.ins(ssa.Ins{Op: ssa.Load, Text: name, Type: t})
}

// temp returns the name of a new variable that no expression names.
func (l *lowerer) temp() string {
	l.temps++
	return "t" + strconv.Itoa(l.temps)
}

func (l *lowerer) none() int {
	return l.constant(api.Value{Kind: api.ValUnit, Name: "None"}, named("None", api.Val))
}

func (l *lowerer) boolean(b bool) int {
	v := api.Value{Kind: api.ValBool}
	if b {
		v.Lo = 1
	}
	return l.constant(v, named("Bool", api.Val))
}

// typeOf returns the type of a value, as far as it is known.
func (l *lowerer) typeOf(value int) api.Type {
	if value == nowhere {
		return api.Type{}
	}
	return l.types[value]
}

// storeEarly puts stores of no value ahead of all else, of those variables that would otherwise be used where nothing was stored.
func (l *lowerer) storeEarly() {
	names := l.early()
	if len(names) == 0 {
		return
	}
	typ := map[string]api.Type{}
	for _, v := range l.variables {
		typ[v.name] = v.typ
	}
	nothing := ssa.Ins{Op: ssa.Const, Result: l.value(api.Type{})}
	ahead := []ssa.Ins{nothing}
	for _, name := range names {
		ahead = append(ahead, ssa.Ins{Op: ssa.Store, Text: name, Type: typ[name], Result: l.value(typ[name]), Args: []int{nothing.Result}})
	}
	l.blocks[0].Ins = append(ahead, l.blocks[0].Ins...)
}

// giveBack ends the function with a value.
func (l *lowerer) giveBack(value int) {
	if l.isDead() {
		return
	}
	if r := l.method.Result; r.Kind == api.TypeName && r.Name == "None" {
		value = l.none()
	}
	l.end(ssa.End{Kind: ssa.Return, Args: []int{value}})
}
