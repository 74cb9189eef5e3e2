package convention

import (
	"slices"
	"testing"

	"hackamore/api"
	"hackamore/parser"
)

func TestUpper(t *testing.T) {
	for name, want := range map[string]bool{"A": true, "_A": true, "__Ab": true, "a": false, "_a": false, "_": false, "": false, "_1": false, "_1A": false, "aB": false, "Z'": true} {
		if Upper(name) != want {
			t.Errorf("Upper(%q) is not %v", name, want)
		}
	}
}

func TestHolds(t *testing.T) {
	for s, want := range map[string]bool{
		"a": true, "b": false, "A": true, "true": true, "false": false, "not a": false, "not b": true, "a and b": false, "a and A": true, "a or b": true, "b or a": true, "b or false": false, "a and not b": true,
		"(a and b) or true": true, "not (a and b)": true,
	} {
		n, _, e := parser.Expr(s)
		holds, path, ok := Holds(n, []string{"a", "A", "true", "false"})
		if e != api.OK || !ok || path != nil || holds != want {
			t.Errorf("%s: %v, %v, %v", s, holds, path, ok)
		}
	}
	for s, want := range map[string][]int{
		"1": nil, "a == b": nil, "-a": nil, "a and 1": {1}, "1 and 2": {0}, "a or (b and (c xor d))": {1, 1}, "true or f()": {1}, "false and this": {1}, "not not \"s\"": {0, 0}, "a is b": nil,
	} {
		n, _, e := parser.Expr(s)
		holds, path, ok := Holds(n, nil)
		if e != api.OK || ok || holds || !slices.Equal(path, want) {
			t.Errorf("%s: %v, %v, %v", s, holds, path, ok)
		}
	}
}
