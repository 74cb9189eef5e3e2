package names

import (
	"slices"
	"strings"

	"hackamore/api"
	"hackamore/convention"
	"hackamore/num"
	"hackamore/sugar"
	"hackamore/syntax"
)

// tree is a node with its path.
type tree struct {
	api.Node
	kids []*tree
	path []int
}

func grow(n api.Node, path []int) *tree {
	t := &tree{Node: n, path: path}
	for i, k := range n.Kids {
		below := append(append([]int{}, path...), i)
		t.kids = append(t.kids, grow(k, below))
	}
	return t
}

// declared is an entity or an alias that a source, or the builtin package, declares.
type declared struct {
	name   string // in the program
	kind   int    // 0 for an alias
	cap    int
	bounds []string
	news   map[string]bool // the names of constructors
	module *module
	tree   *tree
	typ    *api.Type // of an alias, once it is known
}

// module is a source: what it declares, in order, and what is visible in it.
type module struct {
	source  int
	pack    string
	tree    *tree
	all     []*declared
	uses    []string // the packages whose conditions hold
	visible map[string]*declared
}

// resolver has the modules, those of the builtin package first, and where its walk is. While it is refusing, it looks for errors alone.
type resolver struct {
	flags    []string
	modules  []*module // the sources
	builtin  []*module // those ahead of and behind the number types
	packs    map[string][]*declared
	rules    map[int]func(*resolver, *tree) api.Expr
	refusing bool
	*place
}

// place is where the walk is: in which module, and which type parameters are in scope.
type place struct {
	module  *module
	params  map[string]bool
	isAlias bool
	locals  *locals
}

func newResolver(l []Source, flags []string) *resolver {
	r := &resolver{flags: flags, packs: map[string][]*declared{}, rules: rules(), place: &place{}}
	for i, s := range l {
		if !sugar.IsPlain(s.Tree) || s.Package != "" && !isPackage(s.Package) {
			panic(failure{Fault{Source: i}, api.ErrArg})
		}
		r.modules = append(r.modules, &module{source: i, pack: s.Package, tree: grow(s.Tree, nil)})
	}
	return r
}

// isPackage reports whether a text is one that a use may have.
func isPackage(s string) bool {
	return syntax.Check(api.Node{Kind: syntax.Use, Text: s, Kids: []api.Node{{Kind: syntax.Nothing}}}) == api.OK
}

// fail leaves with an error at a node.
func (r *resolver) fail(t *tree, code api.Errno) {
	panic(failure{Fault{r.module.source, t.path}, code})
}

// declare declares all entities, and finds out what is visible where.
func (r *resolver) declare() {
	r.declareBuiltin()
	for _, m := range r.modules {
		r.module = m
		r.readUses(m)
		for _, t := range m.tree.kids {
			if t.Kind == syntax.Entity {
				r.refuseTwice(t)
				r.add(m, newDeclared(m, t))
			}
		}
	}
	for _, m := range slices.Concat(r.builtin, r.modules) {
		m.visible = r.visibleIn(m)
	}
}

func (r *resolver) declareBuiltin() {
	for _, text := range []string{first, last} {
		m := &module{source: -1, tree: grow(builtin(text), nil)}
		r.builtin = append(r.builtin, m)
		for _, t := range m.tree.kids {
			r.add(m, newDeclared(m, t))
		}
	}
	for _, typ := range num.Types() {
		r.add(&module{}, &declared{name: typ, kind: api.Primitive, cap: api.Val, news: map[string]bool{"create": true}})
	}
}

func (r *resolver) add(m *module, d *declared) {
	m.all = append(m.all, d)
	r.packs[m.pack] = append(r.packs[m.pack], d)
}

// readUses refuses wrong uses, and keeps those that hold.
func (r *resolver) readUses(m *module) {
	for _, t := range m.tree.kids {
		if t.Kind != syntax.Use {
			continue
		}
		holds := true
		if t.kids[0].Kind != syntax.Nothing {
			var ok bool
			if holds, _, ok = convention.Holds(t.kids[0].Node, r.flags); !ok {
				r.fail(t, api.ErrForm)
			}
		}
		if holds && !slices.ContainsFunc(r.modules, func(other *module) bool { return other.pack == t.Text }) {
			r.fail(t, ErrUse)
		}
		if holds {
			m.uses = append(m.uses, t.Text)
		}
	}
}

// refuseTwice refuses names that are declared twice, of an entity and in it.
func (r *resolver) refuseTwice(t *tree) {
	if slices.ContainsFunc(r.packs[r.module.pack], func(d *declared) bool { return d.plain() == t.Text }) {
		r.fail(t, api.ErrTwice)
	}
	bounds, members := map[string]bool{}, map[string]bool{}
	r.once(t.kids[2].kids, bounds)
	for _, m := range t.kids[4:] {
		r.once([]*tree{m}, members)
		if m.Kind == syntax.Method {
			own := map[string]bool{}
			for name := range bounds {
				own[name] = true
			}
			r.once(m.kids[2].kids, own)
			r.once(m.kids[3].kids, map[string]bool{})
		}
	}
}

// once puts names into a set, and refuses one that it has.
func (r *resolver) once(l []*tree, set map[string]bool) {
	for _, t := range l {
		if set[t.Text] {
			r.fail(t, api.ErrTwice)
		}
		set[t.Text] = true
	}
}

// plain is the name of an entity without its package.
func (d *declared) plain() string { return d.name[strings.LastIndexByte(d.name, '.')+1:] }

func newDeclared(m *module, t *tree) *declared {
	d := &declared{name: t.Text, kind: entityKind(t.kids[0].Text), module: m, tree: t, news: map[string]bool{}}
	if m.pack != "" {
		d.name = m.pack + "." + t.Text
	}
	d.cap = capability(t.kids[1].Text)
	if d.cap == api.CapNone {
		d.cap = defaultCap(d.kind)
	}
	for _, b := range t.kids[2].kids {
		d.bounds = append(d.bounds, b.Text)
	}
	for _, k := range t.kids[4:] {
		if k.Kind == syntax.Method && k.kids[0].Text == "new" {
			d.news[k.Text] = true
		}
	}
	return d
}

// entityKind returns the kind of entities with a word, 0 for aliases.
func entityKind(word string) int {
	return slices.Index([]string{"type", "class", "actor", "primitive", "trait", "interface"}, word)
}

func defaultCap(kind int) int {
	switch kind {
	case api.Actor:
		return api.Tag
	case api.Primitive:
		return api.Val
	}
	return api.Ref
}

// capability returns the capability with a name, CapNone for no text.
func capability(name string) int {
	return slices.Index([]string{"", "iso", "trn", "ref", "val", "box", "tag", "#read", "#send", "#share", "#alias", "#any"}, name)
}

// visibleIn returns what is visible in a module, by the names that it has there.
func (r *resolver) visibleIn(m *module) map[string]*declared {
	names := map[string]*declared{}
	put := func(ahead, pack string) {
		for _, d := range r.packs[pack] {
			if name := ahead + d.plain(); names[name] == nil {
				names[name] = d
			}
		}
	}
	put("", m.pack)
	for _, use := range m.uses {
		put("", use)
		put(use[strings.LastIndexByte(use, '/')+1:]+".", use)
	}
	put("", "")
	return names
}

// refuseCycles refuses aliases that lead to themselves.
func (r *resolver) refuseCycles() {
	for _, m := range r.modules {
		for _, d := range m.all {
			if d.kind == 0 && leadsToItself(d) {
				r.module = m
				r.fail(d.tree, ErrCycle)
			}
		}
	}
}

// leadsToItself reports whether the type of an alias names it, or an alias that leads to it.
func leadsToItself(alias *declared) bool {
	seen := map[*declared]bool{}
	work := []*declared{alias}
	circle := false
search:
	for len(work) > 0 {
		d := work[0]
		work = work[1:]
		for _, other := range d.aliases(d.tree.kids[3], nil) {
			if other == alias {
				circle = true
				break search
			}
			if !seen[other] {
				seen[other] = true
				work = append(work, other)
			}
		}
	}
	return circle
}

// aliases adds the aliases that a type in an alias names to a list.
func (d *declared) aliases(t *tree, l []*declared) []*declared {
	if t.Kind == syntax.NamedType && !slices.Contains(d.bounds, t.Text) {
		if other := d.module.visible[t.Text]; other != nil && other.kind == 0 {
			l = append(l, other)
		}
	}
	for _, k := range t.kids {
		l = d.aliases(k, l)
	}
	return l
}
