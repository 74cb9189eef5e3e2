package matching

import (
	"iter"
	"slices"
	"strconv"
	"strings"

	"hackamore/api"
)

// asked is a pattern that must take the part at a path, and the numbers of what its parts take.
type asked struct {
	path    []int
	sets    []int
	pattern Pattern
}

// row takes the values that have all that it asks for; paths ascend, and none leads into another one. It stands for a case.
type row struct {
	of    int
	asked []asked
}

// key returns a text that rows of one case that ask for the same have.
func (r row) key() string {
	var w strings.Builder
	w.WriteString(strconv.Itoa(r.of))
	for _, a := range r.asked {
		for _, i := range a.path {
			w.WriteString("." + strconv.Itoa(i))
		}
		for _, n := range a.sets {
			w.WriteString(" " + strconv.Itoa(n))
		}
	}
	return w.String()
}

// find returns what a row asks of the part at a path.
func (r row) find(path []int) (asked, bool) {
	for _, a := range r.asked {
		if slices.Equal(a.path, path) {
			return a, true
		}
	}
	return asked{}, false
}

// keys returns the keys of rows.
func keys(rows []row) []string {
	var l []string
	for _, r := range rows {
		l = append(l, r.key())
	}
	return l
}

// open is what is not decided yet: rows that may take values that operands take. Operands say nothing of parts of which no row asks.
type open struct{ rows, operands []row }

// key returns a text that only what is decided alike has.
func (o open) key() string {
	operands := keys(o.operands)
	slices.Sort(operands)
	return strings.Join(keys(o.rows), "|") + "\n" + strings.Join(operands, "|")
}

// tooMany is what a maker panics with.
type tooMany struct{}

// maker makes the trees of a match; left is how many it may still make.
type maker struct {
	*space
	cases []Case
	left  int
}

// Decide returns a decision tree for cases.
func Decide(leaves int, operand Pattern, l []Case) (t Tree, e api.Errno) {
	if e := checkMatch(leaves, operand, l); e != api.OK {
		return Tree{}, e
	}
	defer func() {
		if x := recover(); x != nil {
			t, e = Tree{}, api.ErrFull
		}
	}()
	m := &maker{newSpace(), l, maxTrees}
	var rows, operands []row
	for i, c := range l {
		rows = append(rows, m.whole(i, c.Pattern))
	}
	if o := m.whole(0, operand); len(o.asked[0].sets) > 0 {
		operands = append(operands, o)
	}
	return m.tree(m.open(slices.Values(rows), operands)), api.OK
}

// whole returns a row that asks a value for a pattern.
func (m *maker) whole(of int, p Pattern) row { return row{of, []asked{{nil, m.each(p), p}}} }

// open returns what rows and operands leave open.
func (m *maker) open(rows iter.Seq[row], operands []row) open {
	l := m.needed(rows, operands)
	return open{l, told(operands, l)}
}

// told returns what operands say of the parts of which rows ask, each once.
func told(operands, rows []row) []row {
	var paths [][]int
	isAsked := func(path []int) bool {
		return slices.ContainsFunc(paths, func(x []int) bool { return slices.Equal(x, path) })
	}
	for _, r := range rows {
		for _, a := range r.asked {
			if !isAsked(a.path) {
				paths = append(paths, a.path)
			}
		}
	}
	var out []row
	known := map[string]bool{}
	for _, o := range operands {
		o.asked = slices.DeleteFunc(slices.Clone(o.asked), func(a asked) bool { return !isAsked(a.path) })
		if key := o.key(); !known[key] {
			known[key] = true
			out = append(out, o)
		}
	}
	return out
}

// tree makes the tree of what is open.
func (m *maker) tree(o open) Tree {
	m.left--
	if m.left < 0 {
		panic(tooMany{})
	}
	if len(o.rows) == 0 {
		return Tree{}
	}
	if first := o.rows[0]; len(first.asked) == 0 {
		t := Tree{Kind: Take, Case: first.of}
		if m.cases[first.of].Guard {
			t.Kids = []Tree{m.tree(m.open(slices.Values(o.rows[1:]), o.operands))}
		}
		return t
	}
	return m.test(o)
}

// needed returns the rows that may take a value of operands, and are not taken by others ahead for sure.
// They ask for no more than operands leave open.
func (m *maker) needed(rows iter.Seq[row], operands []row) []row {
	var out []row
	known := map[string]bool{}
	full := map[int]bool{} // the cases that take all values
	for r := range rows {
		r.asked = slices.DeleteFunc(slices.Clone(r.asked), func(a asked) bool { return m.isSure(a, operands) })
		key := r.key()
		if full[r.of] || known[key] || !slices.ContainsFunc(operands, func(o row) bool { return m.meet(r, o) }) {
			continue
		}
		known[key] = true
		if len(r.asked) > 0 {
			out = append(out, r)
			continue
		}
		full[r.of] = true
		out = append(slices.DeleteFunc(out, func(x row) bool { return x.of == r.of }), r)
		if !m.cases[r.of].Guard {
			break
		}
	}
	return out
}

// isSure reports whether all values of operands have what is asked for.
func (m *maker) isSure(a asked, operands []row) bool {
	return !slices.ContainsFunc(operands, func(o row) bool {
		b, ok := o.find(a.path)
		return !ok || m.has(mixture{size: 1, in: b.sets, out: a.sets})
	})
}

// meet reports whether two rows take a value together.
func (m *maker) meet(r, o row) bool {
	return !slices.ContainsFunc(r.asked, func(a asked) bool {
		b, ok := o.find(a.path)
		return ok && !m.has(mixture{size: 1, in: a.sets, also: b.sets, narrowed: true})
	})
}

// test makes a tree that looks at the first part of which a row asks anything. Leaves behind which the same is open stand together.
func (m *maker) test(o open) Tree {
	path := o.rows[0].asked[0].path
	for _, r := range o.rows {
		if len(r.asked) > 0 && slices.Compare(r.asked[0].path, path) < 0 {
			path = r.asked[0].path
		}
	}
	t := Tree{Kind: Test, Path: slices.Clone(path)}
	places := map[string]int{}
	for _, s := range m.sorts(o.operands, path) {
		operands := slices.Collect(m.behind(o.operands, path, s))
		next := m.open(m.behind(o.rows, path, s), operands)
		if len(next.rows) == 0 {
			continue // no Kid says the same
		}
		key := next.key()
		if i, ok := places[key]; ok && s.Arity == 0 {
			t.Sorts[i].Leaves = append(t.Sorts[i].Leaves, s.Leaves...)
			continue
		}
		kid := m.tree(next)
		places[key] = len(t.Kids)
		t.Sorts = append(t.Sorts, s)
		t.Kids = append(t.Kids, kid)
	}
	return t
}

// sorts returns what the part at a path may be, leaf by leaf.
func (m *maker) sorts(operands []row, path []int) []Sort {
	var may set
	for _, o := range operands {
		if a, ok := o.find(path); ok {
			may = m.any(may, a.sets)
		}
	}
	var out []Sort
	for _, n := range may.leaves.list() {
		out = append(out, Sort{Leaves: []int{n}})
	}
	for size := leastTuple; size <= mostTuple; size++ {
		if may.of(size) != nothing {
			out = append(out, Sort{Arity: size})
		}
	}
	return out
}

// any adds to the leaves of a set those of others, and to its tuples, of each size, some of theirs.
func (m *maker) any(x set, l []int) set {
	for _, n := range l {
		for i, word := range m.sets[n].leaves {
			x.leaves[i] |= word
		}
		for i, tuples := range m.sets[n].tuples {
			x.tuples[i] = max(x.tuples[i], tuples)
		}
	}
	return x
}

// hasLeaf reports whether a leaf is asked for.
func (m *maker) hasLeaf(a asked, leaf int) bool {
	return slices.ContainsFunc(a.sets, func(n int) bool { return m.sets[n].leaves.has(leaf) })
}

// behind hands on what is left of rows when the part at a path is of a sort: a tuple, or the one leaf.
func (m *maker) behind(rows []row, path []int, s Sort) iter.Seq[row] {
	return func(yield func(row) bool) {
		for _, r := range rows {
			i := slices.IndexFunc(r.asked, func(a asked) bool { return slices.Equal(a.path, path) })
			if i < 0 {
				if !yield(r) {
					return
				}
				continue
			}
			ahead, later := r.asked[:i], r.asked[i+1:]
			for kids := range m.below(r.asked[i], s) {
				if !yield(row{r.of, slices.Concat(ahead, kids, later)}) {
					return
				}
			}
		}
	}
}

// below hands on what is asked of the elements of a part of a sort, each way in which it has what is asked of it.
func (m *maker) below(a asked, s Sort) iter.Seq[[]asked] {
	return func(yield func([]asked) bool) {
		if s.Arity == 0 {
			if m.hasLeaf(a, s.Leaves[0]) {
				yield(nil)
			}
			return
		}
		for _, part := range a.pattern {
			if kids, ok := m.elements(a.path, part, s.Arity); ok && !yield(kids) {
				return
			}
		}
	}
}

// elements returns what a part asks of the elements of the tuple at a path, if it takes any of this size.
func (m *maker) elements(path []int, part Part, size int) ([]asked, bool) {
	if len(part.Kids) != size {
		return nil, false
	}
	var l []asked
	for i, k := range part.Kids {
		sets := m.each(k)
		if len(sets) == 0 {
			return nil, false
		}
		l = append(l, asked{append(slices.Clip(path), i), sets, k})
	}
	return l, true
}
