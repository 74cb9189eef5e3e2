package flow

import (
	"iter"
	"slices"
	"strconv"
	"strings"

	"hackamore/api"
)

// tree is a node of a body with what its place means: whether its value is used, whether an error there is caught,
// and whether a loop is around it. ahead is the state in which it is reached, and summary what it does with any state.
type tree struct {
	api.Expr
	path    []int
	kids    []*tree
	used    bool
	caught  bool
	looped  bool
	partial bool
	ahead   state
	summary *ways
}

func isNone(x api.Expr) bool {
	return x.Op == 0 && x.Text == "" && len(x.Types) == 0 && len(x.Kids) == 0
}

// newTree returns the tree of a body that is right.
func newTree(x api.Expr, used bool, partial [][]int) *tree {
	paths := map[string]bool{}
	for _, p := range partial {
		paths[key(p)] = true
	}
	var grow func(t *tree)
	grow = func(t *tree) {
		t.partial = (t.Op == api.OpCall || t.Op == api.OpNew) && paths[key(t.path)]
		for i, k := range t.Kids {
			kid := &tree{Expr: k, path: append(slices.Clip(t.path), i), caught: t.caught, looped: t.looped}
			kid.used = isUsed(t, i, used)
			switch t.Op {
			case api.OpTry:
				kid.caught = t.caught || i == 0
			case api.OpWhile:
				kid.looped = t.looped || i < 2
			}
			t.kids = append(t.kids, kid)
			grow(kid)
		}
	}
	root := &tree{Expr: x, used: used}
	grow(root)
	return root
}

// key returns a path as a text.
func key(path []int) string {
	var w strings.Builder
	for _, i := range path {
		w.WriteString(strconv.Itoa(i) + ".")
	}
	return w.String()
}

// isUsed reports whether the value of a Kid is used; of a method, whether its result is.
func isUsed(t *tree, kid int, result bool) bool {
	switch t.Op {
	case api.OpSeq:
		return t.used && kid == len(t.Kids)-1
	case api.OpIf, api.OpWhile:
		return t.used || kid == 0
	case api.OpMatch:
		return t.used || kid == 0
	case api.OpCase:
		return t.used || kid == 0
	case api.OpTry:
		return t.used && kid < 2
	case api.OpRecover:
		return t.used
	case api.OpReturn:
		return result
	}
	return true
}

// nodes hands on the nodes of an expression that are not none, in the order of the walk.
func nodes(x api.Expr) iter.Seq[api.Expr] {
	return func(yield func(api.Expr) bool) {
		var walk func(x api.Expr) bool
		walk = func(x api.Expr) bool {
			if isNone(x) {
				return true
			}
			if !yield(x) {
				return false
			}
			for _, k := range x.Kids {
				if !walk(k) {
					return false
				}
			}
			return true
		}
		walk(x)
	}
}

// many is the greatest number of Kids of an operation that may have any number.
const many = api.MaxNodes

// kids says how many Kids operations have, from and to a number.
var kids = [api.OpLast + 1][2]int{
	api.OpGet: {1, 1}, api.OpSet: {2, 2}, api.OpVar: {0, 1}, api.OpLet: {0, 1}, api.OpAssign: {1, 1}, api.OpSeq: {0, many},
	api.OpIf: {3, 3}, api.OpWhile: {3, 3}, api.OpMatch: {1, many}, api.OpCase: {2, 2}, api.OpTry: {3, 3}, api.OpReturn: {0, 1},
	api.OpCall: {1, many}, api.OpNew: {0, many}, api.OpRecover: {1, 1}, api.OpTuple: {0, many}, api.OpItem: {1, 1}, api.OpIs: {2, 2},
}

// checkExpr returns the error of an expression.
func checkExpr(x api.Expr) api.Errno {
	left := api.MaxNodes
	switch {
	case !fits(x, 1, &left):
		return api.ErrSize
	case x.Op == api.OpCase || !isFormed(x):
		return api.ErrForm
	}
	return api.OK
}

// fits reports whether an expression at a depth has not more nodes than are left, and is not too deep.
func fits(x api.Expr, depth int, left *int) bool {
	*left--
	return *left >= 0 && depth <= api.MaxTree && !slices.ContainsFunc(x.Kids, func(k api.Expr) bool { return !fits(k, depth+1, left) })
}

// isFormed reports whether an expression that is not none has the right form.
func isFormed(x api.Expr) bool {
	if x.Op < 1 || x.Op > api.OpLast || len(x.Kids) < kids[x.Op][0] || len(x.Kids) > kids[x.Op][1] {
		return false
	}
	for i, k := range x.Kids {
		if isNone(k) && mayBeNone(x.Op, i) {
			continue
		}
		if (k.Op == api.OpCase) != (x.Op == api.OpMatch && i > 0) || !isFormed(k) {
			return false
		}
	}
	return true
}

func mayBeNone(op, kid int) bool {
	switch op {
	case api.OpIf, api.OpWhile:
		return kid == 2
	case api.OpTry:
		return kid > 0
	case api.OpCase:
		return kid == 0
	}
	return false
}
