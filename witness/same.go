package witness

import (
	"slices"

	"hackamore/api"
	"hackamore/internal/same"
)

func sameEntity(a, b api.Entity) bool {
	return a.Kind == b.Kind && a.Name == b.Name && a.Cap == b.Cap && slices.EqualFunc(a.Bounds, b.Bounds, sameBound) &&
		slices.EqualFunc(a.Provides, b.Provides, same.Type) && slices.EqualFunc(a.Fields, b.Fields, sameField) && slices.EqualFunc(a.Methods, b.Methods, sameMethod)
}

func sameBound(a, b api.Bound) bool { return a.Name == b.Name && same.Type(a.Type, b.Type) }

func sameField(a, b api.Field) bool {
	return a.Name == b.Name && a.Let == b.Let && same.Type(a.Type, b.Type)
}

func sameParam(a, b api.Param) bool { return a.Name == b.Name && same.Type(a.Type, b.Type) }

func sameMethod(a, b api.Method) bool {
	return a.Kind == b.Kind && a.Name == b.Name && a.Cap == b.Cap && a.Partial == b.Partial && same.Type(a.Result, b.Result) &&
		slices.EqualFunc(a.Bounds, b.Bounds, sameBound) && slices.EqualFunc(a.Params, b.Params, sameParam) && same.Expr(a.Body, b.Body)
}
