package check_test

import (
	"reflect"
	"slices"
	"testing"

	"hackamore/api"
	. "hackamore/check"
	"hackamore/internal/pony"
	"hackamore/internal/sample"
	"hackamore/subtype"
	"hackamore/types"
)

// node is a node of a body, with its path.
type node struct {
	api.Expr
	path []int
}

// walked returns the nodes of a body in the order of the walk.
func walked(x api.Expr, path []int) []node {
	l := []node{{x, path}}
	if x.Op == 0 {
		return l
	}
	for i, k := range x.Kids {
		l = append(l, walked(k, append(slices.Clip(path), i))...)
	}
	return l
}

func isPrefix(a, b []int) bool { return len(a) <= len(b) && slices.Equal(a, b[:len(a)]) }

// contextOf returns the context of a node as the chapter tells it, from the whole body: what was declared ahead, in the order of
// the walk, by OpVar and OpLet behind their Kid and by OpCase ahead of its Kids, and the regions around the node.
func contextOf(t *testing.T, p []api.Entity, i, j int, path []int) Context {
	t.Helper()
	c, e := Begin(p, i, j)
	if e != api.OK {
		t.Fatalf("Begin: error %d", e)
	}
	body := p[i].Methods[j].Body
	all := walked(body, nil)
	consumed := func(name string) bool {
		return slices.ContainsFunc(all, func(n node) bool { return n.Op == api.OpConsume && n.Text == name })
	}
	region := func(path []int) (l []int) {
		number := 0
		for _, n := range all {
			if n.Op == api.OpRecover {
				number++
				if isPrefix(n.path, path) && len(n.path) < len(path) {
					l = append(l, number)
				}
			}
		}
		return l
	}
	innermost := func(path []int) int {
		if l := region(path); len(l) > 0 {
			return l[len(l)-1]
		}
		return 0
	}
	var declare func(x api.Expr, at []int)
	declare = func(x api.Expr, at []int) {
		if slices.Compare(at, path) >= 0 || x.Op == 0 {
			return
		}
		l := Local{Name: x.Text, Region: innermost(at), Always: (len(x.Kids) > 0 || x.Op == api.OpCase) && !consumed(x.Text)}
		if x.Op == api.OpCase && x.Text != "" {
			l.Param, l.Type = true, x.Types[0]
			if isPrefix(append(slices.Clip(at), 0), path) {
				once, _ := types.Aliased(l.Type)
				l.Type, _ = types.Aliased(once)
			}
			c.Locals = append(c.Locals, l)
		}
		for i, k := range x.Kids {
			declare(k, append(slices.Clip(at), i))
		}
		if (x.Op == api.OpVar || x.Op == api.OpLet) && !isPrefix(at, path) {
			l.Type = x.Types[0]
			c.Locals = append(c.Locals, l)
		}
	}
	declare(body, nil)
	c.Regions = region(path)
	return c
}

// places are the methods that get bodies by chance: an entity and a method of the program of cells.
func places() [][2]string {
	return [][2]string{{"main.Cell", "get"}, {"main.Cell", "mine"}, {"main.Cell", "put"}, {"main.Cell", "share"}, {"main.Cell", "alone"}, {"main.Cell", "half"}, {"main.Cell", "id"}, {"main.Cell", "part"}, {"main.Cell", "send"}}
}

// trials hands on programs of cells in which a method has a body by chance.
func trials(t *testing.T, seed uint64, n int, try func(p []api.Entity, i, j int)) {
	t.Helper()
	pick := sample.Source(seed)
	m := pony.BodyMaker{Pick: pick}
	p := cells()
	for range n {
		place := places()[pick(len(places()))]
		q, i, j := with(t, p, place[0], place[1], func(x *api.Method) {
			x.Partial = pick(2) == 0
			x.Body = m.Body(*x, 4)
		})
		try(q, i, j)
	}
}

// kidsTypes returns the types of the Kids of the node with a number, of those of all nodes.
func kidsTypes(all []node, l []api.Type, at int) []api.Type {
	var kids []api.Type
	if all[at].Op == 0 {
		return nil
	}
	for i, n := range all {
		if len(n.path) == len(all[at].path)+1 && isPrefix(all[at].path, n.path) {
			kids = append(kids, l[i])
		}
	}
	return kids
}

// TestCertificates: P13.2: each type is what Rule gives for those of the Kids; and where a method fails, this is the first
// expression, Kids first, of which Rule fails, or nothing but the body as a whole.
func TestCertificates(t *testing.T) {
	right, wrong := 0, 0
	trials(t, 1, 1200, func(p []api.Entity, i, j int) {
		body := p[i].Methods[j].Body
		all := walked(body, nil)
		b, f, e := Method(p, i, j)
		if e == api.OK {
			right++
			if b.Entity != i || b.Method != j || len(b.Types) != len(all) || !sameFault(f, Fault{}) {
				t.Fatalf("%s: %d types, not %d; fault %v", show(body), len(b.Types), len(all), f)
			}
		}
		found := make([]api.Type, len(all))
		for _, k := range kidsFirst(all) {
			if all[k].Op == 0 {
				continue
			}
			r, code := Rule(p, contextOf(t, p, i, j, all[k].path), all[k].Expr, kidsTypes(all, found, k))
			if code != api.OK {
				wrong++
				if e != code || !sameFault(f, Fault{i, j, all[k].path}) {
					t.Fatalf("%s: Method %d at %v, Rule %d at %v", show(body), e, f, code, all[k].path)
				}
				return
			}
			found[k] = r
		}
		if e == api.OK && !reflect.DeepEqual(found, b.Types) {
			t.Fatalf("%s: %v, not %v", show(body), b.Types, found)
		}
		if e != api.OK && (e < 130 || e > 135) && e != ErrResult {
			t.Fatalf("%s: error %d at %v where each Rule holds", show(body), e, f)
		}
	})
	if right < 100 || wrong < 100 {
		t.Errorf("%d right, %d wrong", right, wrong)
	}
}

// kidsFirst returns the numbers of nodes, Kids, in order, ahead of the node above them.
func kidsFirst(all []node) []int {
	var l []int
	var visit func(at int)
	visit = func(at int) {
		for i, n := range all {
			if len(n.path) == len(all[at].path)+1 && isPrefix(all[at].path, n.path) {
				visit(i)
			}
		}
		l = append(l, at)
	}
	visit(0)
	return l
}

// TestWhole: P13.3: Check is Program, and then the methods; entities that nothing names change nothing else.
func TestWhole(t *testing.T) {
	trials(t, 2, 300, func(p []api.Entity, i, j int) {
		if i%7 == 0 {
			p = slices.Clone(p)
			p[0].Cap = 0
		}
		c, f, e := Check(p)
		want, at, code := whole(p)
		if e != code || !sameFault(f, at) || !reflect.DeepEqual(c, want) {
			t.Fatalf("error %d at %v, not %d at %v", e, f, code, at)
		}
		more := append(slices.Clone(p), api.Entity{Kind: api.Class, Name: "main.More", Cap: api.Ref, Methods: []api.Method{method(api.Fun, "alone", api.Iso, "U8 val", u8())}})
		d, g, e2 := Check(more)
		if e == api.OK {
			last := d.Bodies[len(d.Bodies)-1]
			d.Bodies = d.Bodies[:len(d.Bodies)-1]
			if last.Entity != len(p) || last.Method != 0 || !reflect.DeepEqual(last.Types, typs("U8 val")) {
				t.Fatalf("%v", last)
			}
		}
		if e2 != e || !sameFault(f, g) || !reflect.DeepEqual(c, d) {
			t.Fatalf("with an entity more: error %d at %v, not %d at %v", e2, g, e, f)
		}
	})
}

func whole(p []api.Entity) (c Certificate, f Fault, e api.Errno) {
	if f, e := Program(p); e != api.OK {
		return c, f, e
	}
	for i := range p {
		for j := range p[i].Methods {
			if p[i].Methods[j].Body.Op == 0 {
				continue
			}
			b, f, e := Method(p, i, j)
			if e != api.OK {
				return Certificate{}, f, e
			}
			c.Bodies = append(c.Bodies, b)
		}
	}
	return c, Fault{}, api.OK
}

// TestFields: P13.4: what is read through box or val cannot be written; what goes to behaviours, and what is met in a recover block from outside, is sendable.
func TestFields(t *testing.T) {
	met := [3]int{}
	trials(t, 3, 5000, func(p []api.Entity, i, j int) {
		b, _, e := Method(p, i, j)
		if e != api.OK {
			return
		}
		all := walked(p[i].Methods[j].Body, nil)
		for k, n := range all {
			kids := kidsTypes(all, b.Types, k)
			switch n.Op {
			case api.OpGet:
				if c := kids[0].Cap; c == api.Box || c == api.Val {
					met[0]++
					for _, cell := range []string{"c", "i", "t", "b", "g"} {
						set := ex(api.OpSet, cell, local("x"), local("x"))
						if _, e := Rule(p, contextOf(t, p, i, j, n.path), set, []api.Type{b.Types[k], typ("main.Cell iso^")}); b.Types[k].Name == "main.Cell" && e != ErrView {
							t.Fatalf("%s may be written: error %d", text(b.Types[k]), e)
						}
					}
				}
			case api.OpCall:
				if m, _ := subtype.Lookup(p, kids[0], n.Text); m.Kind == api.Be {
					met[1]++
					for a, k := range kids[1:] {
						if !types.Sendable(k) && !reflect.DeepEqual(k, api.Type{}) || !types.Sendable(m.Params[a].Type) {
							t.Fatalf("%s is sent", text(k))
						}
					}
				}
			case api.OpLocal, api.OpConsume:
				c := contextOf(t, p, i, j, n.path)
				for _, l := range slices.Backward(c.Locals) {
					if l.Name == n.Text {
						if len(c.Regions) > 0 && l.Region != c.Regions[len(c.Regions)-1] {
							met[2]++
							if !types.Sendable(l.Type) {
								t.Fatalf("%s of the type %s is met", l.Name, text(l.Type))
							}
						}
						break
					}
				}
			}
		}
	})
	if slices.Min(met[:]) < 3 {
		t.Errorf("met %v", met)
	}
}

// TestWeaker: P13.5: where a value fits, a value of a subtype fits.
func TestWeaker(t *testing.T) {
	p := cells()
	pick := sample.Source(5)
	m := sample.TypeMaker{Pick: pick, Names: map[int][]string{0: {"U8", "None", "main.Dog", "main.Cat", "main.Sound", "main.Cell"}}}
	get, j := at(t, p, "main.Cell", "get")
	took := 0
	for range 6000 {
		wanted, given, less := m.Type(pick(2)), m.Type(pick(2)), m.Type(pick(2))
		if pick(2) == 0 {
			given = wanted
		}
		if !subtype.Is(p, less, given) {
			continue
		}
		q, _, _ := with(t, p, "main.Cell", "get", func(m *api.Method) { m.Result = wanted })
		q, _, _ = with(t, q, "main.Cell", "put", func(m *api.Method) { m.Params[0].Type = wanted })
		locals := []Local{{Name: "x", Always: true, Type: wanted}}
		for _, x := range []api.Expr{{Op: api.OpVar, Text: "x", Types: []api.Type{wanted}, Kids: []api.Expr{this()}}, ex(api.OpAssign, "x", this()), ex(api.OpReturn, "", this()), ex(api.OpCall, "put", this(), this())} {
			kids := []api.Type{given}
			if x.Op == api.OpCall {
				kids = typs("main.Cell ref", "")
				kids[1] = given
			}
			a, e := Rule(q, Context{Entity: get, Method: j, Locals: locals}, x, kids)
			if e != api.OK {
				continue
			}
			took++
			kids[len(kids)-1] = less
			if b, e := Rule(q, Context{Entity: get, Method: j, Locals: locals}, x, kids); e != api.OK || text(a) != text(b) {
				t.Fatalf("%s takes %s, but not %s: error %d", show(x), text(given), text(less), e)
			}
		}
	}
	if took < 300 {
		t.Errorf("%d taken", took)
	}
}
