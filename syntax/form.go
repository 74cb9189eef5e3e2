package syntax

import (
	"slices"
	"strings"
	"unicode/utf8"

	"hackamore/api"
	"hackamore/token"
)

// shape says how the nodes of a kind look: their name, the group of their Text, the groups of their first Kids,
// the groups of those behind these (all of the first group ahead of all of the second one), and how many of these there must be.
type shape struct {
	name  string
	text  string
	kids  []string
	more  []string
	least int
}

// The capabilities that may be written, and the sets of them that constraints may have.
const (
	caps = " iso trn ref val box tag "
	sets = "#read #send #share #alias #any "
	ops  = " and or xor is isnt + - * / % +? -? *? /? %? << >> == != < <= > >= "
)

func shapes() [Last + 1]shape {
	none, branches := []string{}, []string{"e", "e", "e?"}
	return [...]shape{
		{},
		{"Module", "-", none, []string{"Use", "Entity"}, 0},
		{"Use", "package", []string{"e?"}, none, 0},
		{"Entity", "name", []string{"entity", "cap", "Bounds", "t?"}, []string{"member"}, 0},
		{"Word", "any", none, none, 0},
		{"Nothing", "-", none, none, 0},
		{"Bounds", "-", none, []string{"Bound"}, 0},
		{"Bound", "name", []string{"t?"}, none, 0},
		{"Field", "name", []string{"kept", "t", "e?"}, none, 0},
		{"Method", "name", []string{"method", "cap", "Bounds", "Params", "t?", "partial", "e?"}, none, 0},
		{"Params", "-", none, []string{"Param"}, 0},
		{"Param", "name", []string{"t", "e?"}, none, 0},
		{"NamedType", "type name", []string{"any cap", "mark"}, []string{"t"}, 0},
		{"UnionType", "-", none, []string{"t"}, 2},
		{"BothType", "-", none, []string{"t"}, 2},
		{"TupleType", "-", none, []string{"t"}, 2},
		{"ArrowType", "-", []string{"t", "t"}, none, 0},
		{"ThisType", "-", none, none, 0},
		{"LambdaType", "-", []string{"cap", "mark", "partial", "t?"}, []string{"t"}, 0},
		{"IntLit", "int", none, none, 0},
		{"FloatLit", "float", none, none, 0},
		{"StringLit", "any", none, none, 0},
		{"BoolLit", "bool", none, none, 0},
		{"Name", "name", none, none, 0},
		{"This", "-", none, none, 0},
		{"Seq", "-", none, []string{"stat"}, 2},
		{"Decl", "name", []string{"kept", "t"}, none, 0},
		{"Assign", "-", []string{"left", "e"}, none, 0},
		{"Dot", "name", []string{"e"}, none, 0},
		{"Tilde", "name", []string{"e"}, none, 0},
		{"Chain", "name", []string{"e"}, none, 0},
		{"Call", "-", []string{"e", "partial"}, []string{"e", "Named"}, 0},
		{"Named", "name", []string{"e"}, none, 0},
		{"Qualify", "-", []string{"e"}, []string{"t"}, 1},
		{"Tuple", "-", none, []string{"e"}, 2},
		{"Array", "-", []string{"t"}, []string{"e"}, 0},
		{"Unary", "unary", []string{"e"}, none, 0},
		{"Binary", "operator", []string{"e", "e"}, none, 0},
		{"As", "-", []string{"e", "t"}, none, 0},
		{"Consume", "-", []string{"e"}, none, 0},
		{"Recover", "-", []string{"cap", "e"}, none, 0},
		{"If", "-", branches, none, 0},
		{"Ifdef", "-", branches, none, 0},
		{"While", "-", branches, none, 0},
		{"Repeat", "-", []string{"e", "e"}, none, 0},
		{"For", "name", []string{"t", "e", "e", "e?"}, none, 0},
		{"With", "name", []string{"t", "e", "e"}, none, 0},
		{"Match", "-", []string{"e", "e?"}, []string{"Case"}, 1},
		{"Case", "-", []string{"e", "e?", "e"}, none, 0},
		{"Try", "-", []string{"e", "e?", "e?"}, none, 0},
		{"Error", "-", none, none, 0},
		{"Return", "-", []string{"e?"}, none, 0},
		{"Break", "-", none, none, 0},
		{"Continue", "-", none, none, 0},
		{"Object", "-", []string{"cap", "t?"}, []string{"member"}, 0},
		{"Lambda", "-", []string{"cap", "Params", "t?", "partial", "e"}, []string{"Capture"}, 0},
		{"Capture", "name", []string{"t", "e"}, none, 0},
	}
}

// word returns the check of a Word whose Text is empty, or one of a list with a space ahead of and behind each.
func word(list string, empty bool) func(api.Node) bool {
	return func(n api.Node) bool {
		return n.Kind == Word && (empty && n.Text == "" || listed(list, n.Text))
	}
}

func listed(list, text string) bool {
	return text != "" && !strings.Contains(text, " ") && strings.Contains(list, " "+text+" ")
}

func kind(k int) func(api.Node) bool { return func(n api.Node) bool { return n.Kind == k } }

func orNothing(is func(api.Node) bool) func(api.Node) bool {
	return func(n api.Node) bool { return n.Kind == Nothing || is(n) }
}

// groups are the groups of nodes that shapes name, by their kinds and, of Words, their Texts.
func groups() map[string]func(api.Node) bool {
	return map[string]func(api.Node) bool{
		"t":       IsType,
		"t?":      orNothing(IsType),
		"e":       IsExpr,
		"e?":      orNothing(IsExpr),
		"stat":    func(n api.Node) bool { return IsExpr(n) && n.Kind != Seq },
		"left":    isLeft,
		"member":  IsMember,
		"entity":  word(" class actor primitive trait interface type ", false),
		"method":  word(" new fun be ", false),
		"kept":    word(" var let ", false),
		"cap":     word(caps, true),
		"any cap": word(caps+sets, true),
		"mark":    word(" ^ ! ", true),
		"partial": word(" ? ", true),
		"Use":     kind(Use),
		"Entity":  kind(Entity),
		"Bounds":  kind(Bounds),
		"Bound":   kind(Bound),
		"Params":  kind(Params),
		"Param":   kind(Param),
		"Named":   kind(Named),
		"Case":    kind(Case),
		"Capture": kind(Capture),
	}
}

// isLeft reports whether an expression may stand on the left of an assignment.
func isLeft(n api.Node) bool {
	switch n.Kind {
	case Name, Decl, Dot, Call:
		return true
	case Tuple:
		return !slices.ContainsFunc(n.Kids, func(k api.Node) bool { return !isLeft(k) })
	}
	return false
}

// texts are the groups of Texts that shapes name.
func texts() map[string]func(string) bool {
	one := func(list string) func(string) bool {
		return func(s string) bool { return listed(list, s) }
	}
	return map[string]func(string) bool{
		"-":         func(s string) bool { return s == "" },
		"any":       utf8.ValidString,
		"name":      token.IsIdent,
		"package":   isPackage,
		"type name": isTypeName,
		"int":       func(s string) bool { return isLiteral(token.Int, s) },
		"float":     func(s string) bool { return isLiteral(token.Float, s) },
		"bool":      one(" true false "),
		"unary":     one(" not - "),
		"operator":  one(ops),
	}
}

// isPackage reports whether a text is names with `/` between them.
func isPackage(s string) bool {
	for _, name := range strings.Split(s, "/") {
		if !token.IsIdent(name) {
			return false
		}
	}
	return true
}

// isTypeName reports whether a text is a name, or two with a point between them.
func isTypeName(s string) bool {
	first, second, two := strings.Cut(s, ".")
	return token.IsIdent(first) && (!two || token.IsIdent(second))
}

// isLiteral reports whether a text is that of a token of a kind.
func isLiteral(kind int, s string) bool {
	l, _, e := token.Scan(s)
	return e == api.OK && len(l) == 1 && l[0].Kind == kind && l[0].Text == s
}

// former checks the form of nodes.
type former struct {
	shapes [Last + 1]shape
	groups map[string]func(api.Node) bool
	texts  map[string]func(string) bool
}

// checkForm returns the error of a tree of any size.
func checkForm(n api.Node) api.Errno {
	f := former{shapes(), groups(), texts()}
	if !f.tree(n) {
		return api.ErrForm
	}
	return api.OK
}

func (f *former) tree(n api.Node) bool {
	if !f.node(n) {
		return false
	}
	for _, k := range n.Kids {
		if !f.tree(k) {
			return false
		}
	}
	return true
}

// node checks a node without its Kids' Kids.
func (f *former) node(n api.Node) bool {
	if n.Kind < 1 || n.Kind > Last {
		return false
	}
	s := &f.shapes[n.Kind]
	if !f.texts[s.text](n.Text) || len(n.Kids) < len(s.kids)+s.least {
		return false
	}
	for i, group := range s.kids {
		if !f.groups[group](n.Kids[i]) {
			return false
		}
	}
	return f.rest(n.Kids[len(s.kids):], s.more) && (n.Kind != Entity || isEntity(n))
}

// rest checks that Kids are of some groups, one after the other.
func (f *former) rest(kids []api.Node, more []string) bool {
	for _, group := range more {
		for len(kids) > 0 && f.groups[group](kids[0]) {
			kids = kids[1:]
		}
	}
	return len(kids) == 0
}

// isEntity reports whether a declaration has a type and no members, if it is of the word type.
func isEntity(n api.Node) bool {
	return n.Kids[0].Text != "type" || IsType(n.Kids[3]) && len(n.Kids) == 4
}
