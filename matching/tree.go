package matching

import (
	"slices"

	"hackamore/api"
)

// Kinds of decision trees.
const (
	Fail = iota // no case fits
	Take        // Case is taken, if it has no guard or this holds; otherwise Kids[0] goes on
	Test        // the part of the value at Path decides: Kids[i] goes on for what Sorts[i] says
)

// Limits of trees.
const (
	maxTrees = 5000
	maxPath  = 3
)

// Sort is a set of leaves, or, with Arity 2 or more, tuples of so many elements.
type Sort struct {
	Leaves []int
	Arity  int
}

// Tree is a decision tree.
type Tree struct {
	Kind, Case int
	Path       []int
	Sorts      []Sort
	Kids       []Tree
}

// CheckTree returns the error of a decision tree for so many leaves and cases.
func CheckTree(leaves, cases int, t Tree) api.Errno {
	left := maxTrees
	c := checker{leaves, cases}
	switch {
	case checkLeaves(leaves) != api.OK:
		return api.ErrArg
	case cases < 0 || cases > maxCases:
		return api.ErrSize
	case !isFew(t, &left) || !c.tree(t, nil):
		return ErrTree
	}
	return api.OK
}

// isFew reports whether there are not more trees in a tree than are left.
func isFew(t Tree, left *int) bool {
	*left--
	return *left >= 0 && !slices.ContainsFunc(t.Kids, func(k Tree) bool { return !isFew(k, left) })
}

// looked is a part that was looked at on the way from the root: where it is, and how many elements it has there.
type looked struct {
	path  []int
	arity int
}

type checker struct{ leaves, cases int }

// tree checks a tree behind what was looked at.
func (c checker) tree(t Tree, way []looked) bool {
	switch t.Kind {
	case Fail:
		return t.Case == 0 && len(t.Path)+len(t.Sorts)+len(t.Kids) == 0
	case Take:
		return t.Case >= 0 && t.Case < c.cases && len(t.Path)+len(t.Sorts) == 0 && len(t.Kids) <= 1 &&
			!slices.ContainsFunc(t.Kids, func(k Tree) bool { return !c.tree(k, way) })
	case Test:
		return t.Case == 0 && len(t.Kids) > 0 && len(t.Kids) == len(t.Sorts) && c.areSorts(t.Sorts) && mayLook(way, t.Path) && c.kids(t, way)
	}
	return false
}

func (c checker) kids(t Tree, way []looked) bool {
	for i, k := range t.Kids {
		if !c.tree(k, append(slices.Clip(way), looked{t.Path, t.Sorts[i].Arity})) {
			return false
		}
	}
	return true
}

// mayLook reports whether a path may be looked at: not twice, and only in a tuple that has such an element.
func mayLook(way []looked, path []int) bool {
	if slices.ContainsFunc(way, func(l looked) bool { return slices.Equal(l.path, path) }) {
		return false
	}
	last := len(path) - 1
	if last < 0 {
		return true
	}
	return last < maxPath && path[last] >= 0 && slices.ContainsFunc(way, func(l looked) bool {
		return l.arity > path[last] && slices.Equal(l.path, path[:last])
	})
}

// areSorts reports whether sorts are right, and no two have anything together.
func (c checker) areSorts(l []Sort) bool {
	known := map[sortKey]bool{}
	add := func(x sortKey) bool {
		twice := known[x]
		known[x] = true
		return !twice
	}
	for _, s := range l {
		switch {
		case len(s.Leaves) == 0 && isTuple(s.Arity):
			if !add(sortKey{arity: s.Arity}) {
				return false
			}
			continue
		case s.Arity != 0 || !areLeaves(c.leaves, s.Leaves):
			return false
		}
		for _, n := range s.Leaves {
			if !add(sortKey{leaf: n}) {
				return false
			}
		}
	}
	return true
}

// sortKey is a leaf, or an arity.
type sortKey struct{ leaf, arity int }

// Run returns the case that a decision tree takes for a value, and how many tests it made.
func Run(leaves int, t Tree, v Value, holds []bool) (taken, tests int, e api.Errno) {
	e = firstOf(checkLeaves(leaves), func() api.Errno { return checkValue(leaves, v) }, func() api.Errno { return CheckTree(leaves, len(holds), t) })
	if e != api.OK {
		return 0, 0, e
	}
	for {
		switch t.Kind {
		case Fail:
			return -1, tests, api.OK
		case Take:
			if len(t.Kids) == 0 || holds[t.Case] {
				return t.Case, tests, api.OK
			}
			t = t.Kids[0]
			continue
		}
		tests++
		i := sortOf(t.Sorts, at(v, t.Path))
		if i < 0 {
			return -1, tests, api.OK
		}
		t = t.Kids[i]
	}
}

// at returns the part of a value at a path that leads to one.
func at(v Value, path []int) Value {
	for _, i := range path {
		v = v.Kids[i]
	}
	return v
}

// sortOf returns the number of the sort that has a part; -1, if none has.
func sortOf(l []Sort, v Value) int {
	return slices.IndexFunc(l, func(s Sort) bool {
		if len(v.Kids) > 0 {
			return s.Arity == len(v.Kids)
		}
		return slices.Contains(s.Leaves, v.Leaf)
	})
}
