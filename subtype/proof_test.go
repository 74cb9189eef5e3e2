package subtype_test

import (
	"reflect"
	"slices"
	"strconv"
	"strings"
	"testing"

	"hackamore/api"
	. "hackamore/subtype"
)

// show writes a derivation as its rules and numbers.
func show(d Proof) string {
	names := []string{"", "Super", "Structure", "Assumed", "UnionAll", "BothAll", "UnionOne", "BothOne", "Tuple", "Param"}
	s := names[d.Rule]
	if d.Rule == Super || d.Rule == UnionOne || d.Rule == BothOne {
		s += " " + strconv.Itoa(d.N)
	}
	var kids []string
	for _, k := range d.Kids {
		kids = append(kids, show(k))
	}
	if len(kids) > 0 {
		s += "(" + strings.Join(kids, ", ") + ")"
	}
	return s
}

// circles has interfaces that ask for themselves, and for one another.
func circles() []api.Entity {
	return append(program(),
		entity(api.Interface, "Even", nil, fun(api.Box, "next", "Odd box")), entity(api.Interface, "Odd", nil, fun(api.Box, "next", "Even box")),
		entity(api.Class, "Nat", nil, fun(api.Box, "next", "Nat box")), generic(1, entity(api.Interface, "Grow", nil, fun(api.Box, "more", "Grow[List[$A] ref] box"))),
		generic(1, entity(api.Class, "Big", nil, fun(api.Box, "more", "Big[List[$A] ref] box"))),
		generic(1, entity(api.Class, "In", nil, fun(api.Box, "m", "$A"))), generic(1, entity(api.Interface, "Out", nil, fun(api.Box, "m", "$A"))))
}

func TestDerive(t *testing.T) {
	for s, want := range map[string]string{
		"C ref < T box":                                   "Super 1",
		"C ref < I box":                                   "Structure(Super 0)",
		"C ref < (I val | I box)":                         "UnionOne 1(Structure(Super 0))",
		"(C ref | T ref) < T box":                         "UnionAll(Super 1, Super 0)",
		"C ref < (T box & Any tag)":                       "BothAll(Super 1, Structure)",
		"(C ref | T ref) < (T box & Any tag)":             "UnionAll(BothAll(Super 1, Structure), BothAll(Super 0, Structure))",
		"(U32 val & T ref) < T box":                       "BothOne 1(Super 0)",
		"(U32 val & T ref) < (C ref | T box)":             "UnionOne 1(BothOne 1(Super 0))",
		"((C ref | U32 val) & T ref) < (C ref | U32 val)": "BothOne 0(UnionAll(UnionOne 0(Super 0), UnionOne 1(Super 0)))",
		"(C ref, U32 val) < (T box, U32 val)":             "Tuple(Super 1, Super 0)",
		"$A < $A":                                         "Param",
		"this iso^ < this":                                "",
		"(this -> C ref) < (this -> C ref)":               "Param",
		"Cell[C ref] ref < List[C ref] box":               "Super 1(Super 0, Super 0)",
		"Pair[C ref, U32 val] ref < List[C ref] ref":      "Super 2(Super 0, Super 0)",
		"Pair[T ref, U32 val] ref < T ref":                "Super 3",
		"Me box < Self box":                               "Structure(Assumed)",
		"Nat box < Even box":                              "Structure(Structure(Assumed))",
		"Even box < Odd box":                              "Structure(Structure(Assumed))",
		"Even ref < Odd box":                              "Structure(Structure(Structure(Assumed)))",
		"In[T val] ref < Out[T box] ref":                  "Structure(Super 0)",
		"In[Nat box] ref < Out[Even box] ref":             "Structure(Structure(Structure(Assumed)))",
		"Out[C val] ref < Out[I val] ref":                 "Structure(Structure(Super 0))",
		// The types grow until the method of the interface has an error, and is passed over.
		"Big[C ref] box < Grow[C ref] box": strings.Repeat("Structure(", 18) + "Structure" + strings.Repeat(")", 18),
		"C ref < Gone ref":                 "",
	} {
		l := strings.Split(s, " < ")
		d, e := Derive(circles(), typ(l[0]), typ(l[1]))
		switch {
		case want == "" && (e == api.OK || !reflect.DeepEqual(d, Proof{})):
			t.Errorf("Derive %s: %s", s, show(d))
		case want != "" && (e != api.OK || show(d) != want):
			t.Errorf("Derive %s: %s, error %d, want %s", s, show(d), e, want)
		case want != "" && Check(circles(), d) != api.OK:
			t.Errorf("Check of %s: error %d", s, Check(circles(), d))
		}
	}
	many := make([]api.Entity, api.MaxUnits+1)
	a, b := typ("C ref"), typ("U32 val")
	for i, x := range []struct {
		p    []api.Entity
		a, b api.Type
		want api.Errno
	}{
		{many, api.Type{}, api.Type{Kind: api.TypeName, Args: slices.Repeat([]api.Type{a}, 400)}, api.ErrForm}, {many, a, api.Type{Kind: api.TypeName, Args: slices.Repeat([]api.Type{a}, 400)}, api.ErrSize}, {many, a, api.Type{}, api.ErrForm},
		{many, a, a, api.ErrSize}, {program(), a, b, api.ErrNone}, {nil, a, a, api.OK},
	} {
		if d, e := Derive(x.p, x.a, x.b); e != x.want || e != api.OK && !reflect.DeepEqual(d, Proof{}) {
			t.Errorf("Derive %d: %v, error %d, want %d", i, d, e, x.want)
		}
	}
}

// TestSteps asks more questions than may be asked: 2 to the power of the depth, and more.
func TestSteps(t *testing.T) {
	deep := func(n int) string { return strings.Repeat("List[", n) + "C ref" + strings.Repeat("] ref", n) }
	for n, want := range map[int]api.Errno{9: api.OK, 10: api.ErrSteps, 15: api.ErrSteps} { // 2^(n+1) - 1 questions
		a := typ(deep(n))
		d, e := Derive(program(), a, a)
		if e != want || Is(program(), a, a) != (want == api.OK) || Bare(program(), a, a) != (want == api.OK) {
			t.Errorf("depth %d: error %d, want %d", n, e, want)
		}
		m := fun(api.Box, "m", deep(n))
		if got := Method(program(), m, m); got != (want == api.OK) {
			t.Errorf("methods of the depth %d: %v", n, got)
		}
		if want == api.OK && Check(program(), d) != api.OK {
			t.Errorf("Check of the derivation of the depth %d: error %d", n, Check(program(), d))
		}
	}
	// One question more than the limit is too many.
	wide := func(n int) string { return "(U32 val" + strings.Repeat(" | U32 val", n-1) + ")" }
	parts := func(a, b int) (string, string) {
		return wide(a), strings.Replace(wide(b), "(U32 val", "(U32 val & Any val", 1)
	}
	_ = parts
	steps := func(n, m int) int { return 1 + n*(1+m) } // each of n parts, and each of m that it is asked of
	for _, x := range [][2]int{{40, 48}, {40, 49}, {62, 31}, {62, 32}, {31, 63}, {31, 64}} {
		a := typ(wide(x[0]))
		b := typ("(" + strings.Repeat("Gone val | ", x[1]-1) + "U32 val)")
		if got, want := Is(program(), a, b), steps(x[0], x[1]) <= MaxSteps; got != want {
			t.Errorf("%d questions: %v", steps(x[0], x[1]), got)
		}
	}
}

func proof(rule, n int, a, b string, kids ...Proof) Proof {
	return Proof{Rule: rule, N: n, A: typ(a), B: typ(b), Kids: kids}
}

func TestCheck(t *testing.T) {
	p := circles()
	same := func(s string) Proof { return proof(Super, 0, s, s) }
	nat := proof(Structure, 0, "Nat box", "Self box", same("Nat box"))
	wrong := func(d Proof, a, b api.Type) Proof {
		d.A, d.B = a, b
		return d
	}
	large := api.Type{Kind: api.TypeTuple, Args: slices.Repeat([]api.Type{typ("C ref")}, 400)}
	for i, x := range []struct {
		d    Proof
		want api.Errno
	}{
		{same("C ref"), api.OK}, {proof(Super, 1, "C ref", "T box"), api.OK}, {proof(Structure, 0, "C ref", "I box", same("U32 val")), api.OK}, {proof(UnionOne, 0, "(C ref | T ref)", "((C ref | T ref) | U32 val)", proof(UnionAll, 0, "(C ref | T ref)", "(C ref | T ref)", proof(UnionOne, 0, "C ref", "(C ref | T ref)", same("C ref")), proof(UnionOne, 1, "T ref", "(C ref | T ref)", same("T ref")))), api.OK},
		{wrong(same("C ref"), api.Type{}, large), api.ErrForm}, {wrong(same("C ref"), large, api.Type{}), api.ErrSize}, {wrong(Proof{Rule: 99}, typ("C ref"), api.Type{}), api.ErrForm},
		{proof(0, 0, "C ref", "C ref"), api.ErrArg}, {proof(10, 0, "C ref", "C ref"), api.ErrArg}, {proof(-1, 0, "C ref", "C ref"), api.ErrArg}, {proof(Super, -1, "C ref", "(C ref | C ref)"), api.ErrArg}, {proof(Tuple, 1, "C ref", "C ref"), api.ErrArg}, {proof(Structure, 1, "C ref", "I box", same("U32 val")), api.ErrArg}, {proof(Assumed, 3, "C ref", "I box"), api.ErrArg}, {proof(UnionAll, 1, "C ref", "I box"), api.ErrArg},
		{proof(Super, 0, "C ref", "(C ref | C ref)"), api.ErrForm}, {proof(Super, 2, "C ref", "T ref"), api.ErrForm}, {proof(Super, 0, "C ref", "T ref"), api.ErrForm}, {proof(Super, 1, "C box", "C ref"), api.ErrForm}, {proof(Super, 0, "C box", "C ref"), api.ErrCap}, {proof(Super, 1, "C box", "T ref"), api.ErrCap}, {proof(Super, 0, "C[C ref] ref", "C ref"), api.ErrForm},
		{proof(Super, 1, "Cell[C ref] ref", "List[C ref] ref"), api.ErrForm}, {proof(Super, 1, "Cell[C ref] ref", "List[C ref] ref", same("C ref"), same("C ref")), api.OK}, {proof(Super, 1, "Cell[C ref] ref", "List[C ref] ref", same("C ref"), same("T ref")), api.ErrForm}, {proof(Super, 1, "Cell[C ref] ref", "List[T ref] ref", proof(Super, 1, "C ref", "T ref"), proof(Super, 0, "T ref", "C ref")), api.ErrForm},
		{proof(Structure, 0, "C ref", "T ref"), api.ErrForm}, {proof(Structure, 0, "C ref", "Grow box"), api.ErrForm}, {proof(Structure, 0, "C ref", "I val", same("U32 val")), api.ErrCap}, {proof(Structure, 0, "T ref", "I ref", same("U32 val")), api.ErrForm}, {proof(Structure, 0, "C ref", "I ref"), api.ErrForm}, {proof(Structure, 0, "C ref", "I ref", same("U32 val"), same("U32 val")), api.ErrForm}, {proof(Structure, 0, "C ref", "I ref", same("C ref")), api.ErrForm}, {proof(Structure, 0, "$A", "I ref", same("C ref")), api.ErrForm}, {nat, api.ErrForm},
		{proof(Structure, 0, "Me box", "Self box", proof(Assumed, 0, "Me box", "Self box")), api.OK}, {proof(Assumed, 0, "Me box", "Self box"), api.ErrScope}, {proof(Assumed, 0, "Me box", "Self val"), api.ErrCap}, {proof(Assumed, 0, "Me box", "T box"), api.ErrForm}, {proof(Assumed, 0, "Me box", "Self box", same("C ref")), api.ErrForm},
		{proof(UnionAll, 0, "(Me box | Me box)", "Self box", proof(Structure, 0, "Me box", "Self box", proof(Assumed, 0, "Me box", "Self box")), proof(Assumed, 0, "Me box", "Self box")), api.ErrScope}, {proof(Structure, 0, "Nat box", "Even box", proof(Structure, 0, "Nat box", "Odd box", proof(Assumed, 0, "Nat box", "Even box"))), api.OK}, {proof(Structure, 0, "Nat box", "Even box", proof(Assumed, 0, "Nat box", "Odd box")), api.ErrScope},
		{proof(UnionAll, 0, "C ref", "C ref"), api.ErrForm}, {proof(UnionAll, 0, "(C ref | T ref)", "T ref", proof(Super, 1, "C ref", "T ref")), api.ErrForm}, {proof(UnionAll, 0, "(C ref | T ref)", "T ref", same("T ref"), proof(Super, 1, "C ref", "T ref")), api.ErrForm}, {proof(BothAll, 0, "C ref", "C ref"), api.ErrForm}, {proof(BothAll, 0, "C ref", "(C ref & T ref)", same("C ref"), proof(Super, 1, "C ref", "T ref")), api.OK},
		{proof(UnionOne, 2, "C ref", "(C ref | T ref)", same("C ref")), api.ErrForm}, {proof(UnionOne, 1, "C ref", "(C ref | T ref)", same("C ref")), api.ErrForm}, {proof(UnionOne, 0, "C ref", "C ref", same("C ref")), api.ErrForm}, {proof(UnionOne, 0, "C ref", "(C ref | T ref)"), api.ErrForm}, {proof(BothOne, 1, "(C ref & T ref)", "C ref", proof(Super, 0, "T ref", "C ref")), api.ErrForm}, {proof(BothOne, 2, "(C ref & T ref)", "C ref", same("C ref")), api.ErrForm}, {proof(BothOne, 0, "(C ref & T ref)", "C ref", same("C ref")), api.OK}, {proof(BothOne, 0, "C ref", "C ref"), api.ErrForm},
		{proof(Tuple, 0, "C ref", "C ref"), api.ErrForm}, {proof(Tuple, 0, "(C ref, C ref)", "(C ref, C ref, C ref)"), api.ErrForm}, {proof(Tuple, 0, "(C ref, C ref)", "(C ref, T ref)", same("C ref"), proof(Super, 1, "C ref", "T ref")), api.OK}, {proof(Tuple, 0, "(C ref, C ref)", "(C ref, T ref)", same("C ref")), api.ErrForm},
		{proof(Param, 0, "C ref", "C ref"), api.ErrForm}, {proof(Param, 0, "$A", "$B"), api.ErrForm}, {proof(Param, 0, "$A ref", "$A"), api.ErrForm}, {proof(Param, 0, "$A^", "$A"), api.ErrCap}, {proof(Param, 0, "$A", "$A"), api.OK}, {proof(Param, 0, "$A", "$A", same("C ref")), api.ErrForm}, {proof(Param, 0, "this box", "this ref"), api.ErrCap}, {proof(Param, 0, "this ref", "this box"), api.OK}, {proof(Param, 0, "this ref", "this"), api.ErrCap}, {proof(Param, 0, "(this -> C ref)", "(this -> C box)"), api.ErrForm}, {proof(Param, 0, "(this -> C ref)", "(this -> C ref)"), api.OK},
	} {
		if e := Check(p, x.d); e != x.want {
			t.Errorf("proof %d, %s: error %d, want %d", i, show(Proof{Rule: max(0, min(9, x.d.Rule)), N: x.d.N, Kids: nil}), e, x.want)
		}
		if x.want == api.OK && !Is(p, x.d.A, x.d.B) {
			t.Errorf("proof %d is taken, but the answer is no", i)
		}
	}
}

// TestMethodsInProofs has proofs of structures whose methods do not fit.
func TestMethodsInProofs(t *testing.T) {
	p := append(program(), entity(api.Interface, "J", nil, fun(api.Box, "one", "U32 val"), fun(api.Box, "two", "", "C ref")), entity(api.Class, "D", nil, fun(api.Ref, "one", "U32 val")),
		entity(api.Class, "E", nil, fun(api.Box, "one", "U32 val"), fun(api.Box, "two", "U32 val", "C ref")), entity(api.Class, "F", nil, fun(api.Box, "two", "", "T ref"), fun(api.Box, "one", "U32 val")))
	one, two := proof(Super, 0, "U32 val", "U32 val"), proof(Super, 1, "C ref", "T ref")
	for i, x := range []struct {
		d    Proof
		want api.Errno
	}{
		{proof(Structure, 0, "D ref", "J ref", one, two), api.ErrCap}, {proof(Structure, 0, "E ref", "J ref", one, two), api.ErrCap}, {proof(Structure, 0, "C ref", "J ref", one, two), api.ErrForm},
		{proof(Structure, 0, "F ref", "J ref", one, two), api.OK}, {proof(Structure, 0, "F ref", "J ref", two, one), api.ErrForm}, {proof(Structure, 0, "F ref", "J iso", one, two), api.ErrCap},
	} {
		if e := Check(p, x.d); e != x.want {
			t.Errorf("proof %d: error %d, want %d", i, e, x.want)
		}
	}
}

func TestLargeProofs(t *testing.T) {
	one := proof(Super, 0, "C ref", "C ref")
	nested := func(depth int) Proof {
		d := one
		for range depth - 1 {
			d = Proof{Rule: 99, Kids: []Proof{d}}
		}
		return d
	}
	wide := func(n int) Proof { return Proof{Rule: 99, Kids: slices.Repeat([]Proof{one}, n-1)} }
	for i, x := range []struct {
		p    []api.Entity
		d    Proof
		want api.Errno
	}{
		{make([]api.Entity, api.MaxUnits+1), one, api.ErrSize}, {nil, nested(201), api.ErrSize}, {nil, nested(200), api.ErrForm}, {nil, wide(2*MaxSteps + 1), api.ErrSize}, {nil, wide(2 * MaxSteps), api.ErrForm}, {nil, Proof{}, api.ErrForm}, {nil, one, api.OK},
	} {
		if e := Check(x.p, x.d); e != x.want {
			t.Errorf("proof %d: error %d, want %d", i, e, x.want)
		}
	}
}
