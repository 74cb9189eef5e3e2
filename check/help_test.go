package check_test

import (
	"reflect"
	"slices"
	"strconv"
	"strings"
	"testing"

	"hackamore/api"
	. "hackamore/check"
	"hackamore/internal/pony"
	"hackamore/types"
)

func typ(s string) api.Type       { return pony.Type(s) }
func typs(l ...string) []api.Type { return pony.Types(l...) }

// text returns the text of a type; the empty one for the zero type.
func text(t api.Type) string {
	if reflect.DeepEqual(t, api.Type{}) {
		return ""
	}
	s, e := types.Text(t)
	if e != api.OK {
		return "error " + e.Error()
	}
	return s
}

func ex(op int, s string, kids ...api.Expr) api.Expr { return pony.Expr(op, s, kids...) }

func this() api.Expr                    { return ex(api.OpThis, "") }
func local(name string) api.Expr        { return ex(api.OpLocal, name) }
func u8() api.Expr                      { return ex(api.OpLit, "1: U8 val") }
func yes() api.Expr                     { return ex(api.OpLit, "true: Bool val") }
func noExpr() api.Expr                  { return api.Expr{} }
func seq(l ...api.Expr) api.Expr        { return ex(api.OpSeq, "", l...) }
func get(f string, x api.Expr) api.Expr { return ex(api.OpGet, f, x) }

func cells() []api.Entity { return pony.Program(pony.Cells) }

func at(t *testing.T, p []api.Entity, entity, method string) (int, int) {
	t.Helper()
	return pony.At(p, entity, method)
}

func with(t *testing.T, p []api.Entity, entity, method string, change func(*api.Method)) ([]api.Entity, int, int) {
	t.Helper()
	return pony.With(p, entity, method, change)
}

// withEntity returns a program in which an entity is changed.
func withEntity(t *testing.T, p []api.Entity, entity string, change func(*api.Entity)) ([]api.Entity, int) {
	t.Helper()
	i, _ := at(t, p, entity, "")
	p = slices.Clone(p)
	p[i].Methods = slices.Clone(p[i].Methods)
	p[i].Fields = slices.Clone(p[i].Fields)
	p[i].Provides = slices.Clone(p[i].Provides)
	change(&p[i])
	return p, i
}

// sameFault compares faults; a nil path is an empty one.
func sameFault(a, b Fault) bool {
	return a.Entity == b.Entity && a.Method == b.Method && slices.Equal(a.Path, b.Path)
}

func path(l ...int) []int { return l }

// show returns an expression as a short text for messages.
func show(x api.Expr) string {
	var w strings.Builder
	var write func(x api.Expr)
	write = func(x api.Expr) {
		w.WriteString("(" + strconv.Itoa(x.Op))
		if x.Text != "" {
			w.WriteString(" " + strconv.Quote(x.Text))
		}
		for _, t := range x.Types {
			w.WriteString(" " + text(t))
		}
		for _, k := range x.Kids {
			if w.Len() < 1000 {
				w.WriteString(" ")
				write(k)
			}
		}
		w.WriteString(")")
	}
	write(x)
	return w.String()
}
