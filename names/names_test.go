package names

import (
	"reflect"
	"strconv"
	"strings"
	"testing"

	"hackamore/api"
	"hackamore/internal/sample"
	"hackamore/num"
	"hackamore/parser"
	"hackamore/sugar"
	"hackamore/syntax"
)

// typeText writes a type in a short form.
func typeText(t api.Type) string {
	caps := [...]string{"", " iso", " trn", " ref", " val", " box", " tag", " #read", " #send", " #share", " #alias", " #any"}
	end := caps[t.Cap] + [...]string{"", "^", "!"}[t.Mark]
	var args []string
	for _, a := range t.Args {
		args = append(args, typeText(a))
	}
	switch t.Kind {
	case api.TypeName:
		if len(args) > 0 {
			return t.Name + "[" + strings.Join(args, ", ") + "]" + end
		}
		return t.Name + end
	case api.TypeParam:
		return "$" + t.Name + end
	case api.TypeUnion:
		return "(" + strings.Join(args, " | ") + ")" + end
	case api.TypeBoth:
		return "(" + strings.Join(args, " & ") + ")" + end
	case api.TypeTuple:
		return "(" + strings.Join(args, ", ") + ")" + end
	case api.TypeArrow:
		return args[0] + "->" + args[1] + end
	case api.TypeSelf:
		return "this" + end
	}
	return "?"
}

// exprText writes an expression in a short form: op:text<types>(kids).
func exprText(x api.Expr) string {
	ops := [...]string{"-", "lit", "local", "this", "get", "set", "var", "let", "assign", "consume", "seq", "if", "while", "match", "case", "try", "error", "return", "break", "continue", "call", "new", "recover", "tuple", "item", "is", "unit"}
	s := ops[x.Op]
	if x.Text != "" {
		s += ":" + x.Text
	}
	var types, kids []string
	for _, t := range x.Types {
		types = append(types, typeText(t))
	}
	for _, k := range x.Kids {
		kids = append(kids, exprText(k))
	}
	if len(types) > 0 {
		s += "<" + strings.Join(types, ", ") + ">"
	}
	if len(kids) > 0 {
		s += "(" + strings.Join(kids, " ") + ")"
	}
	return s
}

func methodText(m api.Method) string {
	s := [...]string{"", "new", "fun", "be"}[m.Kind] + typeText(api.Type{Kind: api.TypeName, Cap: m.Cap}) + " " + m.Name
	for _, b := range m.Bounds {
		s += "[" + b.Name + ": " + typeText(b.Type) + "]"
	}
	for _, p := range m.Params {
		s += "(" + p.Name + ": " + typeText(p.Type) + ")"
	}
	s += ": " + typeText(m.Result)
	if m.Partial {
		s += " ?"
	}
	if m.Body.Op != 0 {
		s += " => " + exprText(m.Body)
	}
	return s
}

func entityText(e api.Entity) string {
	s := [...]string{"", "class", "actor", "primitive", "trait", "interface"}[e.Kind] + typeText(api.Type{Kind: api.TypeName, Cap: e.Cap}) + " " + e.Name
	for _, b := range e.Bounds {
		s += "[" + b.Name + ": " + typeText(b.Type) + "]"
	}
	for _, t := range e.Provides {
		s += " is " + typeText(t)
	}
	for _, f := range e.Fields {
		s += map[bool]string{true: "; let ", false: "; var "}[f.Let] + f.Name + ": " + typeText(f.Type)
	}
	for _, m := range e.Methods {
		s += "; " + methodText(m)
	}
	return s
}

// source is a text of a package.
type source struct{ pack, text string }

func sources(t *testing.T, l ...source) []Source {
	t.Helper()
	var out []Source
	for _, s := range l {
		n, at, e := parser.Parse(s.text)
		if e != api.OK {
			t.Fatalf("%s: error %d at %d", s.text, e, at)
		}
		out = append(out, Source{s.pack, n})
	}
	return out
}

const builtins = 25

// check checks what becomes of modules: the entities behind the builtin ones.
func check(t *testing.T, want string, l ...source) {
	t.Helper()
	p, f, e := Resolve(sources(t, l...), []string{"on"})
	if e != api.OK || f.Source != 0 || len(f.Path) > 0 || len(p) < builtins {
		t.Errorf("%v: error %d at %v", l, e, f)
		return
	}
	var texts []string
	for _, x := range p[builtins:] {
		texts = append(texts, entityText(x))
	}
	if got := strings.Join(texts, "\n"); got != want {
		t.Errorf("%v\n%s\nwant\n%s", l, got, want)
	}
	if e := Check(p); e != api.OK {
		t.Errorf("%v: Check: error %d", l, e)
	}
}

func TestBuiltin(t *testing.T) {
	p, _, e := Resolve(nil, nil)
	if e != api.OK || len(p) != builtins || Check(p) != api.OK {
		t.Fatalf("error %d, %d entities, Check %d", e, len(p), Check(p))
	}
	var names []string
	for _, x := range p {
		names = append(names, x.Name)
	}
	if got := strings.Join(names, " "); got != "Any Stringable Iterator None Bool I8 I16 I32 I64 I128 ISize U8 U16 U32 U64 U128 USize F32 F64 String Array Range AmbientAuth Out Env" {
		t.Errorf("the builtin entities: %s", got)
	}
	for name, want := range map[string]string{
		"Any":         "interface tag Any",
		"Stringable":  "interface box Stringable; fun box string: String val",
		"Iterator":    "interface ref Iterator[A: Any #any]; fun ref has_next: Bool val; fun ref next: $A^ ?",
		"None":        "primitive val None; fun box string: String val",
		"Bool":        "primitive val Bool; fun box eq(that: Bool val): Bool val; fun box ne(that: Bool val): Bool val; fun box op_and(that: Bool val): Bool val; fun box op_or(that: Bool val): Bool val; fun box op_xor(that: Bool val): Bool val; fun box op_not: Bool val; fun box string: String val",
		"String":      "class val String; fun box size: USize val; fun box apply(i: USize val): U8 val ?; fun box add(that: String box): String val; fun box eq(that: String box): Bool val; fun box ne(that: String box): Bool val; fun box lt(that: String box): Bool val; fun box le(that: String box): Bool val; fun box gt(that: String box): Bool val; fun box ge(that: String box): Bool val; fun box substring(from: USize val)(to: USize val): String val; fun box string: String val",
		"Array":       "class ref Array[A: Any #any]; new ref create: Array[$A] ref^; fun box size: USize val; fun box apply(i: USize val): this->$A! ?; fun ref update(i: USize val)(value: $A): $A^ ?; fun ref push(value: $A): None val; fun ref pop: $A^ ?",
		"Range":       "class ref Range; var _at: USize val; let _end: USize val; new ref create(from: USize val)(to: USize val): Range ref^ => seq(set:_at(this local:from) set:_end(this local:to) this); fun ref has_next: Bool val => call:lt(get:_at(this) get:_end(this)); fun ref next: USize val ? => if(call:lt(get:_at(this) get:_end(this)) set:_at(this call:add(get:_at(this) lit:1<USize val>)) error)",
		"AmbientAuth": "primitive val AmbientAuth", "Out": "actor tag Out; be tag print(text: String val): None val", "Env": "class val Env; let out: Out tag; let args: Array[String val] val; let root: AmbientAuth val",
	} {
		x, ok := Find(p, name)
		if got := entityText(x); !ok || got != want {
			t.Errorf("%s: %s, want %s", name, got, want)
		}
	}
	for _, typ := range num.Types() {
		x, _ := Find(p, typ)
		got := entityText(x)
		for _, part := range []string{"primitive val " + typ + "; new val create(value: " + typ + " val): " + typ + " val^; fun box add(that: " + typ + " val): " + typ + " val; ", "; fun box add_partial(that: " + typ + " val): " + typ + " val ?; ", "; fun box lt(that: " + typ + " val): Bool val; ", "; fun box u8: U8 val; ", "; fun box f64: F64 val; fun box string: String val"} {
			if !strings.Contains(got, part) {
				t.Errorf("%s: %s has no %s", typ, got, part)
			}
		}
		if methods, _ := num.Methods(typ); len(x.Methods) != len(methods)+1 {
			t.Errorf("%s has %d methods", typ, len(x.Methods))
		}
	}
}

// TestBuiltinTexts checks that the texts are those of the builtin entities: each is plain, and as a source of another package has them.
func TestBuiltinTexts(t *testing.T) {
	var l []Source
	for _, text := range Builtin() {
		n, at, e := parser.Parse(text)
		if e != api.OK || !sugar.IsPlain(n) {
			t.Fatalf("%s: error %d at %d", text, e, at)
		}
		l = append(l, Source{"b", n})
	}
	p, f, e := Resolve(l, nil)
	if e != api.OK || len(p) != 2*builtins {
		t.Fatalf("error %d at %v, %d entities", e, f, len(p))
	}
	for i, x := range p[:builtins] {
		if got := strings.ReplaceAll(entityText(p[builtins+i]), "b.", ""); got != entityText(x) && x.Name != "Range" {
			t.Errorf("%s, want %s", got, entityText(x))
		}
	}
	l[0].Package = ""
	if _, f, e := Resolve(l[:1], nil); e != api.ErrTwice || !reflect.DeepEqual(f, Fault{0, []int{0}}) {
		t.Errorf("the builtin module once more: error %d at %v", e, f)
	}
}

func TestEntities(t *testing.T) {
	check(t, "class ref main.A\nclass iso main.B\nactor tag main.C\nprimitive val main.D\ntrait ref main.E\ninterface ref main.F\ninterface box main.G", source{"main", "class A class iso B actor C primitive D trait E interface F interface box G"})
	check(t, "class ref X", source{"", "class X"})
	check(t, "class ref a/b.X; let f: U8 val", source{"a/b", "class X let f: U8"})
	check(t, "class ref p.X[A: Any #any][B: $A #read][C: (p.X[$A, $B, $C] tag & None val)] is p.Y ref is Any tag is (None val & Any tag); var a: $A; let b: $B val!; let c: p.X[$A, $B, $C] iso^; new ref create: p.X[$A, $B, $C] ref^; new val make: p.X[$A, $B, $C] val^; new ref more: U8 val\ninterface ref p.Y",
		source{"p", "class X[A, B: A #read, C: (X[A, B, C] tag & None)] is (Y & Any & (None & Any)) var a: A let b: B val! let c: X[A, B, C] iso^ new create() new val make() new more(): U8 interface Y"})
	check(t, "trait ref p.T is p.U ref; fun box f: None val; fun iso g: None val ?; be tag h: None val; be tag i: None val; fun ref j[A: Any #any](x: $A)(y: U8 val): (U8 val, $A ref) => local:x\ntrait ref p.U; new ref create: p.U ref^\nactor tag p.V; new tag create: p.V tag^; new iso other: p.V iso^\nprimitive val p.W; new val create: p.W val^",
		source{"p", "trait T is U fun f() fun iso g() ? be h() be ref i() fun ref j[A](x: A, y: U8): (U8, A ref) => x trait U new create() actor V new create() new iso other() primitive W new create()"})
	check(t, "class ref p.A; let n: p.None val\nprimitive val p.None; fun box f: None val => unit<p.None val>", source{"p", "class A let n: None primitive None fun f() => None"}, source{"q", ""})
}

func TestTypes(t *testing.T) {
	field := func(typ, want string, more ...source) {
		t.Helper()
		check(t, "class ref p.C[A: Any #any]; let f: "+want, append([]source{{"p", "class C[A] let f: " + typ}}, more...)...)
	}
	for typ, want := range map[string]string{
		"A": "$A", "A val^": "$A val^", "A!": "$A!", "U8": "U8 val", "U8 tag!": "U8 tag!", "String": "String val", "Env": "Env val", "Out": "Out tag", "Array[A]": "Array[$A] ref", "Array[Array[A iso] val] box^": "Array[Array[$A iso] val] box^", "(A | U8 | (U8 | A))": "($A | U8 val | (U8 val | $A))",
		"(A & Any)": "($A & Any tag)", "(A, U8, A)": "($A, U8 val, $A)", "this->A": "this->$A", "A->B": "", "A val->U8": "$A val->U8 val", "this->A->U8": "this->$A->U8 val", "(U8, this->(A | None))": "(U8 val, this->($A | None val))",
	} {
		if want != "" {
			field(typ, want)
		}
	}
}

func TestAliases(t *testing.T) {
	const aliases = "type One is U8 type Id[X] is X type Two[X, Y] is (X val | Y^ | X) type Deep[X] is (Id[X] | (X iso, (X! & this->X tag!))) type Read[X] is this->X type Both is (I & J) "
	for typ, want := range map[string]string{
		"One": "U8 val", "Id[U8 ref!]": "U8 ref!", "Id[A]": "$A", "Two[A, U8]": "($A val | U8 val^ | $A)", "Two[A iso^, (U8 | (A, this->A))]": "($A val^ | (U8 val^ | ($A^, this->$A^)) | $A iso^)", "Two[(A & Any), A]": "(($A val & Any val) | $A^ | ($A & Any tag))",
		"Deep[A]": "($A | ($A iso, ($A! & this->$A tag!)))", "Array[Id[Id[A]]]": "Array[$A] ref", "Read[A box]": "this->$A box", "Two[Array[A] ref, Id[One]]": "(Array[$A] val | U8 val^ | Array[$A] ref)", "Id[A]->U8": "$A->U8 val", "Both": "(p.I ref & p.J ref)", "Two[this->A, A->U8]": "(this->$A val | $A->U8 val^ | this->$A)",
	} {
		check(t, "class ref p.C[A: Any #any]; let f: "+want+"\ninterface ref p.I\ninterface ref p.J", source{"p", aliases + "class C[A] let f: " + typ + " interface I interface J"})
	}
	check(t, "class ref p.C is p.I ref is p.J ref\ninterface ref p.I\ninterface ref p.J", source{"p", aliases + "class C is Both interface I interface J"})
	check(t, "class ref q.C; let a: (q.D ref | p.D ref)\nclass ref q.D\nclass ref p.D\nclass ref p.E", source{"q", "use \"p\" class C let a: p.X[D] class D"}, source{"p", "type X[A] is (A | Y) type Y is D class D class E"})
	check(t, "interface ref p.C[A: ($A | U8 val)]; let f: U8 val", source{"p", "type T[X] is (X | U8) interface C[A: T[A]] let f: U8"})
}

// TestLargeAliases has aliases whose types are far larger than their text: that is no matter where they do not stand in what is returned.
func TestLargeAliases(t *testing.T) {
	for _, form := range []struct{ first, next, use string }{
		{"type A0 is U8 ", "type A# is (A@ | A@) ", "A70"},
		{"type A0[X] is X ", "type A#[X] is (A@[X], A@[(X | U8)]) ", "A70[U8]"},
		{"type A0 is U8 ", "type A# is this->Array[(A@ & A@)] ", "A70"},
	} {
		text := form.first
		for i := range 70 {
			text += strings.NewReplacer("#", strconv.Itoa(i+1), "@", strconv.Itoa(i)).Replace(form.next)
		}
		text += "type Last[X] is U8 type Second[X, Y] is Y "
		check(t, "class ref p.C; let x: U8 val; let y: Bool val", source{"p", text + "class C let x: Last[" + form.use + "] let y: Second[(U8 | " + form.use + "), Bool]"})
		for wrong, path := range map[string][]int{"class C let x: " + form.use + " let y: Z": {73, 5, 1}, "class C let x: " + form.use + " let y: " + form.use + "->Z": {73, 5, 1, 0}, "class C let x: Second[" + form.use + ", Z]": {73, 4, 1, 3}, "class C let x: " + form.use + " type B is Z": {74, 3}} {
			code := api.ErrScope
			if len(path) == 4 && path[1] == 5 {
				code = ErrKind
			}
			if _, f, e := Resolve(sources(t, source{"p", text + wrong}), nil); e != code || !reflect.DeepEqual(f, Fault{0, path}) {
				t.Errorf("%s: error %d at %v", wrong, e, f)
			}
		}
	}
}

func TestVisible(t *testing.T) {
	check(t, "class ref m.C; let a: a/p.X ref; let b: b/q.X ref; let c: m.Y ref; let d: a/p.Y ref; let e: m.U8 ref; let f: Y2 ref; let g: a/p.Z ref\nclass ref m.Y\nclass ref m.U8\nclass ref a/p.X\nclass ref a/p.Y\nclass ref a/p.Z\nclass ref b/q.X\nclass ref Y2\nclass ref c/p.Z",
		source{"m", "use \"a/p\" use \"b/q\" use \"c/p\" class C let a: X let b: q.X let c: Y let d: p.Y let e: U8 let f: Y2 let g: p.Z"}, source{"m", "class Y class U8"}, source{"a/p", "class X class Y class Z"}, source{"b/q", "class X"}, source{"", "class Y2"}, source{"c/p", "class Z"})
	check(t, "class ref m.C; let a: a.X ref\nclass ref a.X\nclass ref b.X", source{"m", "use \"b\" if off use \"a\" if on or off use \"none\" if not on class C let a: X"}, source{"a", "class X"}, source{"b", "class X"})
	check(t, "class ref m.C[A: Any #any]; let a: $A\nclass ref m.A", source{"m", "class C[A] let a: A class A"})
}

const head = "class C[T] var f: U8 new create() new val make[S](x: T) fun g() primitive P primitive Q[T] new make() class D fun h() interface I type L is U8 trait R "

// checkBodies checks the bodies of a method.
func checkBodies(t *testing.T, want map[string]string) {
	t.Helper()
	for body, w := range want {
		p, f, e := Resolve(sources(t, source{"p", head + "class E[A] fun m[B](x: U8, y: E[A], _: U8) => " + body}), nil)
		c, _ := Find(p, "p.E")
		if e != api.OK {
			t.Errorf("%s: error %d at %v", body, e, f)
			continue
		}
		if got := exprText(c.Methods[0].Body); got != w {
			t.Errorf("%s\n%s\nwant\n%s", body, got, w)
		}
		if e := Check(p); e != api.OK {
			t.Errorf("%s: Check: error %d", body, e)
		}
	}
}

func TestBodies(t *testing.T) {
	checkBodies(t, map[string]string{
		"1": "lit:1<USize val>", "18446744073709551615": "lit:18446744073709551615<USize val>", "1.50": "lit:1.50<F64 val>", "\"\"": "lit<String val>", "\"a b\"": "lit:a b<String val>", "true": "lit:true<Bool val>", "x": "local:x", "this": "this", "P": "unit<p.P val>", "None": "unit<None val>",
		"U8.create(7)": "lit:7<U8 val>", "U128.create(340282366920938463463374607431768211455)": "lit:340282366920938463463374607431768211455<U128 val>", "F64.create(3)": "lit:3<F64 val>", "F32.create(1.5)": "lit:1.5<F32 val>", "F32.create(340282366920938463463374607431768211455)": "lit:340282366920938463463374607431768211455<F32 val>",
		"U8.create(x)": "new:create<U8 val>(local:x)", "U8.create(1.5)": "new:create<U8 val>(lit:1.5<F64 val>)", "U8.create(1, 2)": "new:create<U8 val>(lit:1<USize val> lit:2<USize val>)", "U8.create()": "new:create<U8 val>", "U8.create[U8](1)": "new:create<U8 val, U8 val>(lit:1<USize val>)", "U8.create(7)?": "lit:7<U8 val>", "1.add(2)": "call:add(lit:1<USize val> lit:2<USize val>)",
		"x; y; 1": "seq(local:x local:y lit:1<USize val>)", "let z: A = x; z": "seq(let:z<$A>(local:x) local:z)", "var z: A": "var:z<$A>", "x = 1": "assign:x(lit:1<USize val>)", "y.f = x": "set:f(local:y local:x)", "this.f": "get:f(this)", "y._1": "item:0(local:y)", "y._12": "item:11(local:y)", "y._0": "get:_0(local:y)", "y._01": "get:_01(local:y)", "y._": "get:_(local:y)",
		"y._9223372036854775807": "item:9223372036854775806(local:y)", "y._9223372036854775808": "get:_9223372036854775808(local:y)", "y._1'": "get:_1'(local:y)", "y._0 = 1": "set:_0(local:y lit:1<USize val>)", "x is y": "is(local:x local:y)", "x isnt y": "if(is(local:x local:y) lit:false<Bool val> lit:true<Bool val>)",
		"y.m(x, 1)?": "call:m(local:y local:x lit:1<USize val>)", "y.m[A, B](x)": "call:m<$A, $B>(local:y local:x)", "P.m(x)": "call:m(unit<p.P val> local:x)", "P.create()": "call:create(unit<p.P val>)", "Q[A].m[B]()": "call:m<$B>(unit<p.Q[$A] val>)", "Q[A].make()": "new:make<p.Q[$A] val>", "C[A].create()": "new:create<p.C[$A] ref>", "C[A iso].make[B](x)": "new:make<p.C[$A iso] ref, $B>(local:x)", "None.string()": "call:string(unit<None val>)",
		"Array[U8].create()": "new:create<Array[U8 val] ref>", "consume x": "consume:x", "recover x end": "recover<this iso>(local:x)", "recover val x end": "recover<this val>(local:x)", "(x, y)": "tuple(local:x local:y)", "return x": "return(local:x)", "return": "return(unit<None val>)", "if x then y end": "if(local:x local:y unit<None val>)", "if x then y else 1 end": "if(local:x local:y lit:1<USize val>)",
		"while x do break end": "while(local:x break unit<None val>)", "while x do continue else y end": "while(local:x continue local:y)", "try error end": "try(error unit<None val> unit<None val>)", "try x else y then 1 end": "try(local:x local:y lit:1<USize val>)", "try x then y end": "try(local:x unit<None val> local:y)",
		"match x | let z: A => z end": "match(local:x case:z<$A>(- local:z))", "match x | let z: A if z => z | let w: P => w else y end": "match(local:x case:z<$A>(local:z local:z) case:w<p.P val>(- local:w) case:_.2<Any tag>(- local:y))",
	})
}

func TestLocals(t *testing.T) {
	checkBodies(t, map[string]string{
		"let x: U8 = x; x": "seq(let:x.2<U8 val>(local:x) local:x.2)",
		"let z: U8; let z: U8 = (let z: U8 = z; z); z":                        "seq(let:z<U8 val> let:z.2<U8 val>(seq(let:z.3<U8 val>(local:z) local:z.3)) local:z.2)",
		"if x then let x: U8; x else x end; x":                                "seq(if(local:x seq(let:x.2<U8 val> local:x.2) local:x) local:x)",
		"if let z: U8 = x then z else z end; let z: U8":                       "seq(if(let:z<U8 val>(local:x) local:z local:z) let:z.2<U8 val>)",
		"while let z: U8 = x do let z: U8; z else z end":                      "while(let:z<U8 val>(local:x) seq(let:z.2<U8 val> local:z.2) local:z)",
		"match let z: U8 = x | let z: A if z => z | let w: A => z else z end": "match(let:z<U8 val>(local:x) case:z.2<$A>(local:z.2 local:z.2) case:w<$A>(- local:z) case:_.2<Any tag>(- local:z))",
		"match x | let _: A => match y | let _: A => 1 else 2 end else 3 end": "match(local:x case:_.3<$A>(- match(local:y case:_.5<$A>(- lit:1<USize val>) case:_.4<Any tag>(- lit:2<USize val>))) case:_.2<Any tag>(- lit:3<USize val>))",
		"try let z: U8 else x then let z: U8; z end":                          "try(let:z<U8 val> local:x seq(let:z.2<U8 val> local:z.2))",
		"recover let z: U8; z end; let z: U8; z":                              "seq(recover<this iso>(seq(let:z<U8 val> local:z)) let:z.2<U8 val> local:z.2)",
		"y.m(let z: U8 = 1, z)":                                               "call:m(local:y let:z<U8 val>(lit:1<USize val>) local:z)",
		"(let z: U8, z); _":                                                   "seq(tuple(let:z<U8 val> local:z) local:_)",
		"let _: U8 = 1; _":                                                    "seq(let:_.2<U8 val>(lit:1<USize val>) local:_.2)",
		"(let z: U8 = x).f = z":                                               "set:f(let:z<U8 val>(local:x) local:z)",
		"let X: U8 = 1; x":                                                    "seq(let:X<U8 val>(lit:1<USize val>) local:x)",
	})
}

// TestBodyErrors checks errors in bodies, with their paths below the body.
func TestBodyErrors(t *testing.T) {
	for body, want := range map[string]struct {
		code api.Errno
		path []int
	}{
		"z": {api.ErrScope, nil}, "X": {api.ErrScope, nil}, "C": {ErrKind, nil}, "I": {ErrKind, nil}, "L": {ErrKind, nil}, "A": {ErrKind, nil}, "B": {ErrKind, nil}, "Q": {ErrArity, nil}, "x; z": {api.ErrScope, []int{1}}, "z = 1": {api.ErrScope, []int{0}}, "X = z": {ErrKind, []int{0}}, "y._1 = z": {ErrKind, []int{0}}, "z._1 = 1": {ErrKind, []int{0}},
		"x = z": {api.ErrScope, []int{1}}, "z.f = 1": {api.ErrScope, []int{0, 0}}, "C.f": {ErrKind, nil}, "P.f": {ErrKind, nil}, "X.f": {api.ErrScope, []int{0}}, "A.f": {ErrKind, nil}, "C[A].f": {ErrKind, nil}, "X[A].f": {api.ErrScope, []int{0, 0}}, "C.f = z": {ErrKind, []int{0}}, "X.f = z": {api.ErrScope, []int{0, 0}}, "P._1": {ErrKind, nil},
		"C[A]": {ErrKind, nil}, "X[A]": {api.ErrScope, []int{0}}, "x[A]": {ErrKind, nil}, "z[A]": {ErrKind, nil}, "y.m[A]": {ErrKind, nil}, "X.m[A]": {api.ErrScope, []int{0, 0}}, "Q[A]": {ErrKind, nil}, "Q[A].f": {ErrKind, nil},
		"18446744073709551616": {ErrLiteral, nil}, "U8.create(256)": {ErrLiteral, []int{2}}, "I8.create(128)": {ErrLiteral, []int{2}}, "U8.create(18446744073709551616)": {ErrLiteral, []int{2}}, strings.Repeat("1", 399) + ".5": {ErrLiteral, nil}, "F32.create(" + strings.Repeat("1", 399) + ".5)": {ErrLiteral, []int{2}}, "U8.create(z)": {api.ErrScope, []int{2}},
		"U8.create(256, 1)": {api.OK, nil}, "U8.create(1.5)": {api.OK, nil},
		"A.create()": {ErrKind, []int{0, 0}}, "X.create()": {api.ErrScope, []int{0, 0}}, "I.create()": {ErrKind, []int{0, 0}}, "R.create()": {ErrKind, []int{0, 0}}, "L.create()": {ErrKind, []int{0, 0}}, "C[A].g()": {api.ErrNone, []int{0, 0, 0}}, "D.create()": {api.ErrNone, []int{0, 0}}, "D[A].h()": {api.ErrNone, []int{0, 0, 0}}, "C.create()": {ErrArity, []int{0, 0}},
		"C[A, A].create(z)": {ErrArity, []int{0, 0, 0}}, "C[X].make[X](z)": {api.ErrScope, []int{0, 0, 0, 1}}, "C[A].make[X](z)": {api.ErrScope, []int{0, 1}}, "C[A].make[A](z)": {api.ErrScope, []int{2}}, "P[A].m()": {ErrArity, []int{0, 0, 0}}, "Q.m(z)": {ErrArity, []int{0, 0}}, "Q[X].m[X](z)": {api.ErrScope, []int{0, 0, 0, 1}}, "Q[A].make[X](z)": {api.ErrScope, []int{0, 1}}, "Q.make()": {ErrArity, []int{0, 0}}, "Q[A].m[X](z)": {api.ErrScope, []int{0, 1}},
		"z.m[X]()": {api.ErrScope, []int{0, 0, 0}}, "y.m[X](z)": {api.ErrScope, []int{0, 1}}, "y.m(z)": {api.ErrScope, []int{2}}, "consume z": {api.ErrScope, []int{0}}, "consume P": {ErrKind, nil}, "consume X": {ErrKind, nil}, "consume y.f": {ErrKind, nil}, "consume this": {ErrKind, nil}, "let z: X = w": {api.ErrScope, []int{0, 1}}, "let z: U8 = z": {api.ErrScope, []int{1}}, "let z: X": {api.ErrScope, []int{1}},
		"if x then let z: U8 end; z": {api.ErrScope, []int{1}}, "while x do let z: U8 else z end": {api.ErrScope, []int{2}}, "if let z: U8 = x then 1 end; z": {api.ErrScope, []int{1}}, "match x | let z: A => 1 | let w: A => z end": {api.ErrScope, []int{3, 2}}, "match x | let z: A => w else v end": {api.ErrScope, []int{1}}, "match x | let z: A => let w: U8 else w end": {api.ErrScope, []int{1}}, "match x | let z: X if w => 1 end": {api.ErrScope, []int{2, 0, 1}},
		"match x | let z: A if w => 1 end": {api.ErrScope, []int{2, 1}}, "try let z: U8 else z end": {api.ErrScope, []int{1}}, "try let z: U8 else 1 then z end": {api.ErrScope, []int{2}}, "recover let z: U8 end; z": {api.ErrScope, []int{1}}, "return z": {api.ErrScope, []int{0}}, "(x, z)": {api.ErrScope, []int{1}}, "x is z": {api.ErrScope, []int{1}}, "z isnt w": {api.ErrScope, []int{0}}, "let z: this": {ErrKind, []int{1}}, "let z: L val": {ErrKind, []int{1}},
	} {
		p, f, e := Resolve(sources(t, source{"q", ""}, source{"p", head + "class E[A] fun m[B](x: U8, y: E[A]) => " + body}), nil)
		path := append([]int{7, 4, 6}, want.path...)
		if e != want.code || e != api.OK && (f.Source != 1 || !reflect.DeepEqual(f.Path, path) || p != nil) || e == api.OK && (f.Source != 0 || f.Path != nil) {
			t.Errorf("%.60s: error %d at %v, want %d at %v", body, e, f, want.code, path)
		}
	}
}

// TestErrors checks errors outside of bodies.
func TestErrors(t *testing.T) {
	one := func(code api.Errno, want []int, text string) {
		t.Helper()
		p, f, e := Resolve(sources(t, source{"o", "class Z"}, source{"p", text}), []string{"on"})
		if e != code || f.Source != 1 || !reflect.DeepEqual(f.Path, want) || p != nil {
			t.Errorf("%s: error %d at %v, want %d at %v", text, e, f, code, want)
		}
	}
	one(api.ErrForm, []int{0}, "use \"o\" if 1")
	one(api.ErrForm, []int{1}, "use \"o\" use \"q\" if on is on")
	one(ErrUse, []int{0}, "use \"q\" use \"o\" if 1")
	one(ErrUse, []int{1}, "use \"q\" if not on use \"q\" if on")
	one(ErrUse, []int{0}, "use \"q\" class A class A")
	one(api.ErrTwice, []int{1}, "class A type A is U8")
	one(api.ErrTwice, []int{0, 2, 1}, "class A[B, B]")
	one(api.ErrTwice, []int{0, 5}, "class A let x: U8 fun x()")
	one(api.ErrTwice, []int{0, 5}, "class A fun x() new x()")
	one(api.ErrTwice, []int{0, 5}, "class A let x: U8 let x: Y")
	one(api.ErrTwice, []int{0, 4, 3, 1}, "class A fun f(x: U8, x: U8)")
	one(api.ErrTwice, []int{0, 4, 3, 1}, "class A fun f(_: U8, _: U8)")
	one(api.ErrTwice, []int{0, 4, 2, 0}, "class A[B] fun f[B](x: U8, x: U8)")
	one(api.ErrTwice, []int{0, 4, 2, 1}, "class A fun f[B, B]() fun f()")
	one(api.ErrTwice, []int{1, 5}, "type A is A class C fun f() fun f()")
	one(ErrCycle, []int{0}, "type A is A")
	one(ErrCycle, []int{1}, "type A is B type B is (U8 | Array[B])")
	one(ErrCycle, []int{0}, "type A is B type B is C type C is (X, A)")
	one(ErrCycle, []int{0}, "type A[X] is A[U8]->Y class D let z: Q")
	one(ErrCycle, []int{0}, "type A[X] is this->A[X]")
	one(api.ErrScope, []int{0, 3}, "type A[B] is E")
	one(api.ErrScope, []int{1, 3, 0}, "type A[B] is C type C is (B | U8)")
	one(api.ErrScope, []int{0, 2, 0, 0}, "class C[A: X] is Y")
	one(api.ErrScope, []int{0, 3}, "class C[A] is Y let x: Z2")
	one(api.ErrScope, []int{0, 4, 1}, "class C let x: Z2 fun f(): Y")
	one(api.ErrScope, []int{0, 4, 2, 0, 0}, "class C fun f[A: X](y: Y): Z")
	one(api.ErrScope, []int{0, 4, 3, 0, 0}, "class C fun f[A](y: Y): Z")
	one(api.ErrScope, []int{0, 4, 4}, "class C fun f[A](y: U8): Z => z")
	one(api.ErrScope, []int{0, 4, 1}, "class C let x: Z")
	one(api.ErrScope, []int{0, 4, 1}, "class C let x: o.Z")
	one(api.ErrScope, []int{1, 4, 1}, "use \"o\" if not on class C let x: Z")
	one(api.ErrScope, []int{1, 4, 1}, "use \"o\" class C let x: p.C")
	one(api.ErrScope, []int{0, 4, 1, 2, 2}, "class C let x: Array[Array[X]]")
	one(ErrArity, []int{0, 4, 1}, "class C let x: Array")
	one(ErrArity, []int{0, 4, 1}, "class C let x: U8[X]")
	one(ErrArity, []int{0, 4, 1}, "class C[A] let x: A[X]")
	one(ErrArity, []int{0, 4, 1}, "class C let x: Array[X, Y]")
	one(ErrArity, []int{1, 4, 1}, "type A[X] is X class C let x: A")
	one(ErrKind, []int{0, 4, 1}, "class C let x: U8 #any")
	one(ErrKind, []int{0, 4, 1}, "class C[A] let x: A #read")
	one(ErrKind, []int{0, 4, 1}, "class C let x: Array #any")
	one(api.ErrScope, []int{0, 4, 1}, "class C let x: X #any")
	one(ErrKind, []int{0, 2, 0, 0, 0}, "class C[A: (U8 #any | U8)]")
	one(ErrKind, []int{0, 2, 0, 0, 2}, "class C[A: Array[U8 #any]]")
	one(ErrKind, []int{1, 4, 1}, "type A is U8 class C let x: A val")
	one(ErrKind, []int{1, 4, 1}, "type A[X] is U8 class C let x: A^")
	one(ErrKind, []int{1, 2, 0, 0}, "type A is U8 class C[X: A #any]")
	one(ErrKind, []int{0, 3}, "type A is U8 #any class C let x: A")
	one(ErrKind, []int{0, 4, 1}, "class C let x: this")
	one(ErrKind, []int{0, 4, 1, 1}, "class C let x: this->this")
	one(ErrKind, []int{0, 4, 1, 0}, "class C let x: U8->U8")
	one(ErrKind, []int{0, 4, 1, 0}, "class C let x: Array[X]->U8")
	one(api.ErrScope, []int{0, 4, 1, 0}, "class C let x: X->U8")
	one(ErrKind, []int{0, 4, 1, 0}, "class C[A] let x: (X | A)->U8")
	one(ErrKind, []int{1, 4, 1, 0}, "type A is U8 class C let x: A->U8")
	one(ErrKind, []int{0, 3, 0}, "type A[X] is X->U8")
	one(ErrKind, []int{1, 3, 0}, "class C[A] let x: T[A] type T[X] is X->U8")
	one(api.ErrScope, []int{1, 2, 0, 0}, "class C[A] let x: T[A] type T[X: Y] is X")
	one(api.ErrScope, []int{1, 3}, "class C let x: T let y: U8 type T is Y")
	for _, alias := range []string{"type T is Array", "type T is Y", "type T is U8", "type T is S type S is Y", "type T is (U8, Y)", "type T is this", "type T is this->U8", "type T is A->U8", "type T[X] is X->U8"} {
		one(ErrKind, []int{0, 4, 1, 0}, "class C[A] let x: T->U8 "+alias)
		one(ErrKind, []int{0, 4, 1, 0}, "class C[A] let x: T->Y "+alias)
		one(ErrKind, []int{0, 3, 0}, "class C[A] is T->Y "+alias)
		one(ErrKind, []int{0, 3, 1, 2, 0}, "class C[A] is (U8 & Array[T->Y]) "+alias)
		one(ErrKind, []int{0, 2, 1, 0, 0}, "class C[A, B: T->Y] "+alias)
		one(ErrKind, []int{0, 4, 3, 0, 0, 0}, "class C[A] fun f(x: T->Y) "+alias)
		one(ErrKind, []int{0, 4, 4, 0}, "class C[A] fun f(): T->Y "+alias)
		one(ErrKind, []int{0, 4, 6, 0, 1, 0}, "class C[A] fun f() => let x: T->Y = z "+alias)
		one(ErrKind, []int{0, 4, 6, 2, 0, 1, 0}, "class C[A] fun f() => match 1 | let x: T->Y => z end "+alias)
	}
	one(ErrKind, []int{0, 4, 1, 0}, "class C let x: T[Y]->U8 type T[X] is Y")
	one(ErrKind, []int{0, 4, 1, 0}, "class C let x: T[Y]->U8 type T[X] is U8")
	one(ErrKind, []int{0, 4, 1, 0}, "class C let x: T[S]->U8 type T[X] is X type S is Y")
	one(ErrKind, []int{0, 4, 1, 0}, "class C let x: T[U8]->Y type T[X] is X")
	one(api.ErrScope, []int{0, 4, 1, 0, 2}, "class C let x: T[Y]->U8 type T[X] is X")
	one(ErrArity, []int{0, 4, 1, 0}, "class C[A] let x: T->U8 type T[X] is X")
	one(api.ErrScope, []int{0, 4, 1, 1}, "class C[A] let x: T[A]->Y type T[X: Y] is X")
	one(api.ErrScope, []int{1, 2, 0, 0}, "class C[A] let x: T[A]->U8 type T[X: Y] is X")
	one(api.ErrScope, []int{0, 3, 0}, "type S is Y->U8 type T is Y")
	one(ErrKind, []int{0, 3, 0}, "type S is T->U8 type T is Y")
	full := "class C"
	for i := range 65 {
		full += " let f" + string(rune('a'+i%26)) + strings.Repeat("x", i/26) + ": U8"
	}
	if _, f, e := Resolve(sources(t, source{"p", full}), nil); e != api.ErrFull || f.Source != 0 || f.Path != nil {
		t.Errorf("65 fields: error %d at %v", e, f)
	}
	if _, _, e := Resolve(sources(t, source{"p", strings.Replace(full, " let fa: U8", "", 1)}), nil); e != api.OK {
		t.Errorf("64 fields: error %d", e)
	}
	for i, x := range []Source{{"p", api.Node{}}, {"p", api.Node{Kind: syntax.Name, Text: "x"}}, {"p/", api.Node{Kind: syntax.Module}}, {"p.q", api.Node{Kind: syntax.Module}}, {"if", api.Node{Kind: syntax.Module}}, {"p", sources(t, source{"", "class C let x: U8 = 1"})[0].Tree}} {
		if p, f, e := Resolve(append(sources(t, source{"p", "class C let x: X"}), x), nil); e != api.ErrArg || f.Source != 1 || f.Path != nil || p != nil {
			t.Errorf("source %d: error %d at %v", i, e, f)
		}
	}
	if _, f, e := Resolve(sources(t, source{"p", "class C"}, source{"q", "class C"}, source{"p", "class D class C"}), nil); e != api.ErrTwice || !reflect.DeepEqual(f, Fault{2, []int{1}}) {
		t.Errorf("an entity twice in a package: error %d at %v", e, f)
	}
	if _, f, e := Resolve(sources(t, source{"p", "class C let x: X"}, source{"q", "class C class C"}), nil); e != api.ErrTwice || f.Source != 1 {
		t.Errorf("ErrTwice ahead of ErrScope: error %d at %v", e, f)
	}
	if _, f, e := Resolve(sources(t, source{"", "class U8"}), nil); e != api.ErrTwice || !reflect.DeepEqual(f, Fault{0, []int{0}}) {
		t.Errorf("a builtin entity again: error %d at %v", e, f)
	}
}

func TestUnits(t *testing.T) {
	text := ""
	for i := range api.MaxUnits - builtins {
		text += "class C" + strings.Repeat("a", i/26) + string(rune('a'+i%26)) + "\n"
	}
	if p, _, e := Resolve(sources(t, source{"p", text + "type T is U8"}), nil); e != api.OK || len(p) != api.MaxUnits {
		t.Errorf("MaxUnits entities: error %d", e)
	}
	if _, f, e := Resolve(sources(t, source{"p", text + "class T"}), nil); e != api.ErrFull || !reflect.DeepEqual(f, Fault{}) {
		t.Errorf("more than MaxUnits entities: error %d at %v", e, f)
	}
}

func TestProgram(t *testing.T) {
	const main = "actor Main\n  new create(env: Env) => env.out.print(\"hi\")"
	p, e := Program(map[string]string{"main": main}, nil)
	m, ok := Find(p, "main.Main")
	if e != api.OK || !ok || entityText(m) != "actor tag main.Main; new tag create(env: Env val): main.Main tag^ => call:print(get:out(local:env) lit:hi<String val>)" {
		t.Errorf("%s, error %d", entityText(m), e)
	}
	for text, want := range map[string]api.Errno{
		"": ErrMain, "actor Main": ErrMain, "class Main new create(env: Env)": ErrMain, "actor Main new create()": ErrMain, "actor Main new create(env: Env ref)": ErrMain, "actor Main new create(env: Env, x: U8)": ErrMain, "actor Main be create(env: Env)": api.ErrTwice, "actor Main new make(env: Env)": ErrMain, "actor Main new create(env: Env!)": ErrMain,
		"class Env actor Main new create(env: Env)": ErrMain, "type E is Env actor Main new create(x: E)": api.OK, "actor Main new create(env: Env) => x": api.ErrScope, "class": api.ErrEnd, "class C fun f() => x.>f": sugar.ErrChain, "actor Main new create(env: Env) => U8(256)": ErrLiteral, "@": 30, "actor Main new create(env: Env) => 1 + 2 * 3": parser.ErrMix,
	} {
		if p, e := Program(map[string]string{"main": text}, nil); e != want || e != api.OK && p != nil {
			t.Errorf("%s: error %d, want %d", text, e, want)
		}
	}
	for _, x := range []struct {
		texts map[string]string
		want  api.Errno
	}{
		{nil, ErrMain}, {map[string]string{"main": main, "a": "class"}, api.ErrEnd}, {map[string]string{"main": "@", "a": "class C fun f() => x.>f"}, sugar.ErrChain}, {map[string]string{"main": "@", "a": "class"}, api.ErrEnd}, {map[string]string{"main": main, "a/": ""}, api.ErrArg}, {map[string]string{"main": main, "": "class X"}, api.OK}, {map[string]string{"main": main, "": "class U8"}, api.ErrTwice},
		{map[string]string{"main": "use \"a\" if f\n" + main, "a": ""}, api.OK}, {map[string]string{"main": "use \"b\" if f\n" + main}, ErrUse}, {map[string]string{"main": "use \"b\" if not f\n" + main}, api.OK}, {map[string]string{"other": main}, ErrMain}, {map[string]string{"main": "actor Main new create(env: Env) => ifdef f then 1 else x end"}, api.OK},
	} {
		if _, e := Program(x.texts, []string{"f"}); e != x.want {
			t.Errorf("%v: error %d, want %d", x.texts, e, x.want)
		}
	}
	a, _ := Program(map[string]string{"main": main, "b": "class B", "a": "class A"}, nil)
	if a[builtins].Name != "a.A" || a[builtins+1].Name != "b.B" || a[builtins+2].Name != "main.Main" {
		t.Errorf("the order of packages: %s %s %s", a[builtins].Name, a[builtins+1].Name, a[builtins+2].Name)
	}
}

func TestFind(t *testing.T) {
	p := []api.Entity{{Name: "A", Cap: 1}, {Name: "A", Cap: 2}, {Name: ""}}
	if x, ok := Find(p, "A"); !ok || x.Cap != 1 {
		t.Errorf("Find: %v, %v", x, ok)
	}
	if x, ok := Find(p, "B"); ok || !reflect.DeepEqual(x, api.Entity{}) {
		t.Errorf("Find of none: %v, %v", x, ok)
	}
}

// TestOrder checks P6.3: sources in another order give the same entities.
func TestOrder(t *testing.T) {
	l := sources(t, source{"a", "use \"b\" class A let x: B2"}, source{"b", "type B2 is B class B let x: B fun f(): B => B.make() new make()"}, source{"a", "use \"b\" trait T is B"}, source{"", "primitive X"})
	p, _, e := Resolve(l, nil)
	if e != api.OK {
		t.Fatalf("error %d", e)
	}
	for _, order := range [][]int{{3, 2, 1, 0}, {1, 0, 3, 2}, {2, 3, 0, 1}} {
		var m []Source
		for _, i := range order {
			m = append(m, l[i])
		}
		q, _, e := Resolve(m, nil)
		if e != api.OK || len(q) != len(p) {
			t.Fatalf("error %d", e)
		}
		for _, x := range p {
			if y, ok := Find(q, x.Name); !ok || !Equal([]api.Entity{x}, []api.Entity{y}) {
				t.Errorf("%s in another order: %s", entityText(x), entityText(y))
			}
		}
	}
}

// TestChance checks P6.2, P6.4, P6.5 and P2 on modules by chance.
func TestChance(t *testing.T) {
	m := sample.Maker{Pick: sample.Source(8)}
	codes := map[api.Errno]int{}
	for range 1500 {
		n := m.Module(3)
		plain, _, e := sugar.Module(n, []string{"a"})
		if e != api.OK {
			continue
		}
		l := append(sources(t, source{"p", "class A class B"}, source{"p/q", "class C class U8"}, source{"a'/b", "primitive A"}), Source{"m", plain})
		p, f, e := Resolve(l, []string{"a"})
		q, g, e2 := Resolve(l, []string{"a", "nobody", "x''"})
		codes[e]++
		if !reflect.DeepEqual(p, q) || !reflect.DeepEqual(f, g) || e != e2 {
			t.Fatal("flags that no condition names change something")
		}
		if e != api.OK {
			if _, none := syntax.At(l[f.Source].Tree, f.Path); none != api.OK || p != nil {
				t.Fatalf("error %d at %v", e, f)
			}
			continue
		}
		if c := Check(p); c != api.OK && c != api.ErrSize {
			t.Fatalf("Check: error %d", c)
		}
		checkUnique(t, p)
	}
	if codes[api.OK] < 50 || codes[api.ErrScope] == 0 || codes[ErrKind] == 0 || codes[ErrArity] == 0 || codes[api.ErrTwice] == 0 {
		t.Errorf("errors and their numbers: %v", codes)
	}
}

// checkUnique checks P6.2: no name of an entity, and no local of a method, is there twice.
func checkUnique(t *testing.T, p []api.Entity) {
	t.Helper()
	names := map[string]bool{}
	for _, e := range p {
		if names[e.Name] {
			t.Fatalf("the entity %s twice", e.Name)
		}
		names[e.Name] = true
		for _, m := range e.Methods {
			locals := map[string]bool{}
			for _, x := range m.Params {
				locals[x.Name] = true
			}
			var walk func(x api.Expr)
			walk = func(x api.Expr) {
				if x.Op == api.OpVar || x.Op == api.OpLet || x.Op == api.OpCase {
					if locals[x.Text] {
						t.Fatalf("the local %s twice in %s", x.Text, methodText(m))
					}
					locals[x.Text] = true
				}
				for _, k := range x.Kids {
					walk(k)
				}
			}
			walk(m.Body)
		}
	}
}

// TestRenamed checks P6.4: locals that are renamed alike change nothing but names.
func TestRenamed(t *testing.T) {
	const text = "class C fun f(abc: U8): U8 => let xyz: U8 = abc; if abc is xyz then let xyz: U8 = xyz; xyz else xyz end; match abc | let abc: U8 => abc.f(xyz) else abc end"
	p, _, e := Resolve(sources(t, source{"p", text}), nil)
	q, _, f := Resolve(sources(t, source{"p", strings.NewReplacer("abc", "k", "xyz", "l").Replace(text)}), nil)
	if e != api.OK || f != api.OK || strings.NewReplacer("abc", "k", "xyz", "l").Replace(entityText(p[builtins])) != entityText(q[builtins]) {
		t.Errorf("errors %d %d\n%s\n%s", e, f, entityText(p[builtins]), entityText(q[builtins]))
	}
}

// TestAnything checks P1 and P2 on trees that need not be well-formed, or plain.
func TestAnything(t *testing.T) {
	m := sample.Maker{Pick: sample.Source(11)}
	for i := range 1000 {
		n := m.Wild(3)
		if i%2 == 0 {
			n = m.Broken(3)
		}
		l := []Source{{"p", api.Node{Kind: syntax.Module}}, {[]string{"", "m", "m/n", "x.y"}[i%4], n}}
		p, f, e := Resolve(l, nil)
		q, g, e2 := Resolve(l, nil)
		if !reflect.DeepEqual(p, q) || !reflect.DeepEqual(f, g) || e != e2 || e != api.OK && p != nil {
			t.Fatalf("%v: error %d at %v", n, e, f)
		}
		if wrong := !sugar.IsPlain(n) || i%4 == 3; wrong != (e == api.ErrArg) || wrong && !reflect.DeepEqual(f, Fault{Source: 1}) {
			t.Fatalf("%v: error %d at %v", n, e, f)
		}
	}
}

func FuzzProgram(f *testing.F) {
	f.Add("actor Main new create(env: Env) => let x: U8 = U8(7); env.out.print(\"hi\"); this~go(1); (let a: U8, let b: U8) = (x, x) be go(a: U8, b: U8 = 2) => a.>add(b)")
	f.Add("type T[A] is (A | this->A^ | (A, T2, p.D)) class C[A: B val] is (I & J) let x: U8 = 1 fun f(y: U8 = 2): U8 ? => (x + y) * y; {() => y }")
	f.Fuzz(func(t *testing.T, s string) {
		n, _, e := parser.Parse(s)
		if e != api.OK {
			return
		}
		plain, _, e := sugar.Module(n, nil)
		if e != api.OK {
			return
		}
		p, fault, e := Resolve([]Source{{"main", plain}, {"p", api.Node{Kind: syntax.Module}}}, nil)
		if c := Check(p); e == api.OK && c != api.OK && c != api.ErrSize || e != api.OK && (p != nil || fault.Source > 1) {
			t.Fatalf("%q: error %d at %v, Check %d", s, e, fault, c)
		}
	})
}
