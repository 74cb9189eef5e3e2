package check_test

import (
	"reflect"
	"testing"

	"hackamore/api"
	. "hackamore/check"
	"hackamore/internal/pony"
)

// TestCheck: programs of texts, of which all bodies are told, in order.
func TestCheck(t *testing.T) {
	for _, s := range append(pony.Texts(), "actor Main\n  new create(env: Env) => env.out.print(\"hi\")") {
		p := pony.Program(s)
		c, f, e := Check(p)
		if e != api.OK || !sameFault(f, Fault{}) {
			t.Fatalf("error %d at %v: %s", e, f, p[f.Entity].Name)
		}
		n := 0
		for i := range p {
			for j, m := range p[i].Methods {
				if m.Body.Op == 0 {
					continue
				}
				if b := c.Bodies[n]; b.Entity != i || b.Method != j || len(b.Types) != len(walked(m.Body, nil)) {
					t.Errorf("%s.%s: %v", p[i].Name, m.Name, b)
				}
				n++
			}
		}
		if len(c.Bodies) != n {
			t.Errorf("%d bodies, not %d", len(c.Bodies), n)
		}
		if again, _, _ := Check(p); !reflect.DeepEqual(c, again) {
			t.Error("another certificate")
		}
	}
	if c, f, e := Check(nil); e != api.OK || len(c.Bodies) > 0 || !sameFault(f, Fault{}) {
		t.Errorf("of nothing: error %d", e)
	}
}

// TestCheckFirst: the first method with an error, behind all of Program.
func TestCheckFirst(t *testing.T) {
	bad := func(m *api.Method) { m.Body = seq(m.Body, local("nobody")) }
	p, i, j := with(t, cells(), "main.Dog", "m", bad)
	p, _, _ = with(t, p, "main.Main", "create", bad)
	if c, f, e := Check(p); e != api.ErrScope || !sameFault(f, Fault{i, j, path(1)}) || len(c.Bodies) > 0 {
		t.Errorf("error %d at %v", e, f)
	}
	last := len(p) - 1
	p[last].Methods = append(p[last].Methods, api.Method{})
	if _, f, e := Check(p); e != api.ErrForm || !sameFault(f, Fault{last, len(p[last].Methods) - 1, nil}) {
		t.Errorf("error %d at %v", e, f)
	}
	// What has no body is not looked at: a builtin method whose parameter is seen through nothing.
	p, i = withEntity(t, cells(), "main.Sound", func(e *api.Entity) {
		e.Methods = append(e.Methods, method(api.Be, "x", api.Tag, "", api.Expr{Text: "none"}))
	})
	if _, f, e := Check(p); e != api.OK {
		t.Errorf("error %d at %v, not at %d", e, f, i)
	}
}
