package check

import (
	"slices"
	"strconv"

	"hackamore/api"
	"hackamore/types"
)

// What the Text of an operation is.
const (
	noText = iota
	anyText
	nameText
	maybeName
	indexText
)

// What the one type of an operation is.
const (
	noType = iota
	anyType
	nameType
	selfType
)

// shape says what an operation has: its Text, its Types, how many Kids, from and to, and (as bits) which of them may be none.
type shape struct{ text, types, least, most, maybe int }

// many is more than the Kids that an expression can have.
const many = api.MaxNodes

var shapes = [api.OpLast + 1]shape{
	api.OpLit:      {anyText, nameType, 0, 0, 0},
	api.OpLocal:    {nameText, noType, 0, 0, 0},
	api.OpThis:     {noText, noType, 0, 0, 0},
	api.OpGet:      {nameText, noType, 1, 1, 0},
	api.OpSet:      {nameText, noType, 2, 2, 0},
	api.OpVar:      {nameText, anyType, 0, 1, 0},
	api.OpLet:      {nameText, anyType, 0, 1, 0},
	api.OpAssign:   {nameText, noType, 1, 1, 0},
	api.OpConsume:  {nameText, noType, 0, 0, 0},
	api.OpSeq:      {noText, noType, 0, many, 0},
	api.OpIf:       {noText, noType, 3, 3, 1 << 2},
	api.OpWhile:    {noText, noType, 3, 3, 1 << 2},
	api.OpMatch:    {noText, noType, 2, many, 0},
	api.OpCase:     {maybeName, anyType, 2, 2, 1 << 0},
	api.OpTry:      {noText, noType, 3, 3, 1<<1 | 1<<2},
	api.OpError:    {noText, noType, 0, 0, 0},
	api.OpReturn:   {noText, noType, 0, 1, 0},
	api.OpBreak:    {noText, noType, 0, 0, 0},
	api.OpContinue: {noText, noType, 0, 0, 0},
	api.OpCall:     {nameText, noType, 1, many, 0},
	api.OpNew:      {nameText, nameType, 0, many, 0},
	api.OpRecover:  {noText, selfType, 1, 1, 0},
	api.OpTuple:    {noText, noType, 2, api.MaxList, 0},
	api.OpItem:     {indexText, noType, 1, 1, 0},
	api.OpIs:       {noText, noType, 2, 2, 0},
	api.OpUnit:     {noText, nameType, 0, 0, 0},
}

func isNone(x api.Expr) bool { return x.Op == 0 }

// Shape returns the path of the first node of an expression that is not as its operation asks, and its error.
func Shape(x api.Expr) ([]int, api.Errno) {
	left := api.MaxNodes
	switch {
	case !isSmall(x, 1, &left):
		return nil, api.ErrSize
	case x.Op == api.OpCase:
		return nil, api.ErrForm
	}
	if path, ok := wrongNode(x, nil); ok {
		return path, api.ErrForm
	}
	return nil, api.OK
}

// isSmall reports whether an expression at a depth has no more nodes than are left, and is not too deep.
func isSmall(x api.Expr, depth int, left *int) bool {
	*left--
	if *left < 0 || depth > api.MaxTree {
		return false
	}
	return isNone(x) || !slices.ContainsFunc(x.Kids, func(k api.Expr) bool { return !isSmall(k, depth+1, left) })
}

// wrongNode returns the path of the first node that by itself is not right.
func wrongNode(x api.Expr, path []int) ([]int, bool) {
	if isNone(x) {
		return nil, false
	}
	if !isShaped(x) {
		return path, true
	}
	for i, k := range x.Kids {
		if wrong, ok := wrongNode(k, append(slices.Clip(path), i)); ok {
			return wrong, true
		}
	}
	return nil, false
}

// isShaped reports whether an expression by itself is right; of its Kids it asks no more than which are none, or an OpCase.
func isShaped(x api.Expr) bool {
	if x.Op < 1 || x.Op > api.OpLast {
		return false
	}
	s := shapes[x.Op]
	if !s.hasText(x.Text) || !s.hasTypes(x.Types) || len(x.Kids) < s.least || len(x.Kids) > s.most {
		return false
	}
	for i, k := range x.Kids {
		switch {
		case isNone(k):
			if s.maybe>>i&1 == 0 {
				return false
			}
		case (k.Op == api.OpCase) != (x.Op == api.OpMatch && i > 0):
			return false
		}
	}
	return true
}

func (s shape) hasText(text string) bool {
	isName := text != "" && len(text) <= api.MaxName
	switch s.text {
	case anyText:
		return true
	case nameText:
		return isName
	case maybeName:
		return isName || text == ""
	case indexText:
		_, ok := index(text)
		return ok
	}
	return text == ""
}

// index returns the number of an element of a tuple.
func index(text string) (int, bool) {
	n, err := strconv.Atoi(text)
	return n, err == nil && n >= 0 && n < api.MaxList && strconv.Itoa(n) == text
}

func (s shape) hasTypes(l []api.Type) bool {
	if s.types == noType || len(l) != 1 {
		return s.types == noType && len(l) == 0
	}
	if types.Check(l[0]) != api.OK {
		return false
	}
	switch s.types {
	case nameType:
		return l[0].Kind == api.TypeName
	case selfType:
		return l[0].Kind == api.TypeSelf
	}
	return true
}
