package lower

import (
	"strings"

	"hackamore/api"
	"hackamore/num"
)

// shape says how many Kids an operation has, and how many Types, from and to.
type shape struct{ least, most, types, mostTypes int }

const many = 1 << 40

var shapes = [api.OpLast + 1]shape{
	api.OpLit: {0, 0, 1, 1}, api.OpLocal: {0, 0, 0, 0}, api.OpThis: {0, 0, 0, 0}, api.OpGet: {1, 1, 0, 0}, api.OpSet: {2, 2, 0, 0},
	api.OpVar: {0, 1, 1, 1}, api.OpLet: {0, 1, 1, 1}, api.OpAssign: {1, 1, 0, 0}, api.OpConsume: {0, 0, 0, 0}, api.OpSeq: {0, many, 0, 0},
	api.OpIf: {3, 3, 0, 0}, api.OpWhile: {3, 3, 0, 0}, api.OpMatch: {1, many, 0, 0}, api.OpCase: {2, 2, 1, 1}, api.OpTry: {3, 3, 0, 0},
	api.OpError: {0, 0, 0, 0}, api.OpReturn: {0, 1, 0, 0}, api.OpBreak: {0, 0, 0, 0}, api.OpContinue: {0, 0, 0, 0}, api.OpCall: {1, many, 0, many},
	api.OpNew: {0, many, 1, many}, api.OpRecover: {1, 1, 1, 1}, api.OpTuple: {2, many, 0, 0}, api.OpItem: {1, 1, 0, 0}, api.OpIs: {2, 2, 0, 0},
	api.OpUnit: {0, 0, 1, 1},
}

func isNone(e api.Expr) bool { return e.Op == 0 }

// isSmall reports whether an expression has no more nodes than it may, and is not too deep. It looks at no more of it than it must.
func isSmall(e api.Expr) bool {
	left := api.MaxNodes
	var count func(e api.Expr, depth int) bool
	count = func(e api.Expr, depth int) bool {
		left--
		if left < 0 || depth > api.MaxTree {
			return false
		}
		for _, k := range e.Kids {
			if !count(k, depth+1) {
				return false
			}
		}
		return true
	}
	return count(e, 1)
}

// isRight reports whether a body is as the interpreter asks for it.
func isRight(e api.Expr) bool { return isSmall(e) && isShaped(e, false) }

// isShaped checks an expression, within a loop or not.
func isShaped(e api.Expr, inLoop bool) bool {
	if e.Op < 1 || e.Op > api.OpLast || e.Op == api.OpCase || !hasShape(e) || !isRightAlone(e, inLoop) {
		return false
	}
	for i, k := range e.Kids {
		switch within := inLoop || e.Op == api.OpWhile && i < 2; {
		case e.Op == api.OpMatch && i > 0:
			if !isCase(k, inLoop) {
				return false
			}
		case isNone(k) && mayBeNone(e.Op, i):
		case !isShaped(k, within):
			return false
		}
	}
	return true
}

// isCase checks a case: its guard may be none.
func isCase(e api.Expr, inLoop bool) bool {
	return e.Op == api.OpCase && hasShape(e) && (isNone(e.Kids[0]) || isShaped(e.Kids[0], inLoop)) && isShaped(e.Kids[1], inLoop)
}

func hasShape(e api.Expr) bool {
	x := shapes[e.Op]
	kids, types := len(e.Kids), len(e.Types)
	return kids >= x.least && kids <= x.most && types >= x.types && types <= x.mostTypes
}

// isRightAlone checks what does not depend on the Kids.
func isRightAlone(e api.Expr, inLoop bool) bool {
	switch e.Op {
	case api.OpLit:
		return isLiteral(e.Types[0].Name, e.Text)
	case api.OpItem:
		return isIndex(e.Text)
	case api.OpBreak, api.OpContinue:
		return inLoop
	}
	return true
}

func isLiteral(typ, text string) bool {
	switch typ {
	case "String":
		return true
	case "Bool":
		return text == "true" || text == "false"
	}
	_, e := num.Parse(typ, text)
	return e == api.OK
}

// isIndex reports whether a text is decimal digits without leading zeros.
func isIndex(s string) bool {
	return s != "" && strings.Trim(s, "0123456789") == "" && (s[0] != '0' || s == "0")
}

// mayBeNone reports whether a Kid of an operation may be left out: what comes otherwise, and what comes last.
func mayBeNone(op, kid int) bool {
	switch op {
	case api.OpIf, api.OpWhile:
		return kid == 2
	case api.OpTry:
		return kid > 0
	}
	return false
}
