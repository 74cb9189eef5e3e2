package colour

import (
	"iter"
	"slices"
	"strings"

	"hackamore/api"
	"hackamore/ssa"
)

// naming has the names of a program's parts: classes, functions and selectors, and the number of each.
type naming struct {
	classes, selectors, methods []string
	class, method               map[string]int // of several the first one
}

// instructions hands on the instructions of a function, with the Calls of tries.
func instructions(f ssa.Func) iter.Seq[ssa.Ins] {
	return func(yield func(ssa.Ins) bool) {
		for _, b := range f.Blocks {
			for _, x := range b.Ins {
				if !yield(x) {
					return
				}
			}
			if b.End.Kind == ssa.Try && !yield(b.End.Call) {
				return
			}
		}
	}
}

func isSelecting(x ssa.Ins) bool { return x.Op == ssa.Call || x.Op == ssa.Send }

// namesOf returns the names of the parts of a program that is right.
func namesOf(p ssa.Program) *naming {
	n := &naming{class: map[string]int{}, method: map[string]int{}}
	for _, x := range p.Entities {
		if x.Kind != api.Class && x.Kind != api.Actor && x.Kind != api.Primitive {
			continue
		}
		if _, ok := n.class[x.Name]; !ok {
			n.class[x.Name] = len(n.classes)
		}
		n.classes = append(n.classes, x.Name)
	}
	for i, f := range p.Funcs {
		n.method[f.Name] = i
		n.methods = append(n.methods, f.Name)
		for x := range instructions(f) {
			if isSelecting(x) {
				n.selectors = append(n.selectors, x.Text)
			}
		}
		for _, c := range n.classes {
			if s, ok := strings.CutPrefix(f.Name, c+"."); ok {
				n.selectors = append(n.selectors, s)
				break
			}
		}
	}
	slices.Sort(n.selectors)
	n.selectors = slices.Compact(n.selectors)
	return n
}

// entries returns the entries of a class.
func (n *naming) entries(class int) []Entry {
	name := n.classes[class]
	if n.class[name] != class {
		return nil
	}
	var l []Entry
	for s, selector := range n.selectors {
		if m, ok := n.method[name+"."+selector]; ok {
			l = append(l, Entry{s, m})
		}
	}
	return l
}

// body returns the body of a function.
func (n *naming) body(f ssa.Func) Body {
	selectors, methods, classes := map[int]bool{}, map[int]bool{}, map[int]bool{}
	note := func(in map[int]bool, numbers map[string]int, name string) {
		if i, ok := numbers[name]; ok {
			in[i] = true
		}
	}
	for x := range instructions(f) {
		switch x.Op {
		case ssa.Call, ssa.Send:
			s, _ := slices.BinarySearch(n.selectors, x.Text)
			selectors[s] = true
		case ssa.Direct:
			note(methods, n.method, x.Text)
		case ssa.Spawn:
			note(methods, n.method, x.Name+"."+x.Text)
			note(classes, n.class, x.Name)
		case ssa.Make:
			note(classes, n.class, x.Text)
		case ssa.Text:
			note(classes, n.class, "String")
		}
		if isTyped := x.Op == ssa.Const || x.Op == ssa.Text || x.Op == ssa.Native; isTyped && x.Type.Kind == api.TypeName {
			note(classes, n.class, x.Type.Name)
		}
	}
	return Body{sorted(selectors), sorted(methods), sorted(classes)}
}

// Of returns the world of a program, with the names of its classes, its selectors and its methods.
func Of(p ssa.Program, roots []string) (w World, classes, selectors, methods []string, e api.Errno) {
	if _, e := ssa.Check(p); e != api.OK {
		return World{}, nil, nil, nil, e
	}
	n := namesOf(p)
	if len(n.selectors) > maxSelectors || len(n.classes) > api.MaxUnits {
		return World{}, nil, nil, nil, api.ErrSize
	}
	for _, name := range roots {
		m, ok := n.method[name]
		if !ok {
			return World{}, nil, nil, nil, api.ErrNone
		}
		w.Roots = append(w.Roots, m)
	}
	for c := range n.classes {
		w.Classes = append(w.Classes, n.entries(c))
	}
	for _, f := range p.Funcs {
		w.Bodies = append(w.Bodies, n.body(f))
	}
	if e := Check(w); e != api.OK {
		return World{}, nil, nil, nil, e
	}
	return w, n.classes, n.selectors, n.methods, api.OK
}
