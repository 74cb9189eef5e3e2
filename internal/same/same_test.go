package same

import (
	"testing"

	"hackamore/api"
)

// TestShared: what shares memory many times is compared at once, also with what is equal elsewhere.
func TestShared(t *testing.T) {
	deep := func(last string) (api.Type, api.Value, api.Expr) {
		x, v, e := api.Type{Name: last}, api.Value{Name: last}, api.Expr{Text: last}
		for range 60 {
			x, v, e = api.Type{Args: []api.Type{x, x}}, api.Value{Kids: []api.Value{v, v}}, api.Expr{Kids: []api.Expr{e, e}}
		}
		return x, v, e
	}
	a, v, e := deep("a")
	b, w, f := deep("a")
	c, x, g := deep("c")
	if !Type(a, b) || Type(a, c) || !Value(v, w) || Value(v, x) || !Expr(e, f) || Expr(e, g) {
		t.Error("deep ones")
	}
	l := []api.Type{{Name: "a"}, {Name: "b"}}
	m := []api.Type{{Name: "a"}, {Name: "c"}}
	one := func(l []api.Type) api.Type { return api.Type{Args: []api.Type{{Args: l[:1]}, {Args: l}}} }
	if Type(one(l), one(m)) || !Type(one(l), one(l)) {
		t.Error("lists of other lengths")
	}
	if !Type(api.Type{Args: []api.Type{}}, api.Type{}) || Type(api.Type{Args: l}, api.Type{}) || !Value(api.Value{Kids: []api.Value{}}, api.Value{}) || Value(api.Value{Hi: 1}, api.Value{}) || Expr(api.Expr{Types: l}, api.Expr{}) {
		t.Error("empty ones")
	}
}
