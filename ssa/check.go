package ssa

import (
	"slices"
	"unicode/utf8"

	"hackamore/api"
)

// isName reports whether a text may be a name.
func isName(s string) bool { return len(s) <= maxName && utf8.ValidString(s) }

func isZeroValue(v api.Value) bool {
	return v.Kind == 0 && v.Lo == 0 && v.Hi == 0 && v.Name == "" && len(v.Kids) == 0
}

func isZeroType(t api.Type) bool {
	return t.Kind == 0 && t.Name == "" && t.Cap == 0 && t.Mark == 0 && len(t.Args) == 0
}

func isZeroIns(x Ins) bool {
	return x.Op == 0 && x.Result == 0 && isZeroType(x.Type) && len(x.Args) == 0 && x.Text == "" && x.Name == "" && isZeroValue(x.Lit) && x.N == 0 && !x.Flag
}

func isFar(value int) bool { return value < 0 || value > maxValue }

// group is a list of values in memory.
type group struct {
	first *api.Value
	n     int
}

// measurer finds out how many levels values have; lists that are shared it looks at once.
type measurer map[group]int

// levels returns how many levels a value has; more than maxDepth, if it has a list that is too long.
func (m measurer) levels(v api.Value, above int) int {
	if len(v.Kids) == 0 {
		return 1
	}
	if len(v.Kids) > maxKids || above == maxDepth {
		return maxDepth + 1
	}
	key := group{&v.Kids[0], len(v.Kids)}
	n, ok := m[key]
	for i := 0; !ok && i < len(v.Kids); i++ {
		n = max(n, m.levels(v.Kids[i], above+1))
	}
	m[key] = n
	return n + 1
}

// isFlat reports whether a value is not too deep, and has no list that is too long.
func isFlat(v api.Value) bool { return len(v.Kids) == 0 || measurer{}.levels(v, 1) <= maxDepth }

// hasFields reports whether an instruction has the fields that its operation names, and no others.
func hasFields(x Ins) bool {
	r := rows[x.Op]
	switch {
	case x.Op == Text && (len(x.Text) > maxBytes || !utf8.ValidString(x.Text)):
		return false
	case x.Op != Text && (r.text != (x.Text != "") || !isName(x.Text)):
		return false
	case r.owner != (x.Name != "") || !isName(x.Name):
		return false
	case !r.lit && !isZeroValue(x.Lit) || !r.flag && x.Flag:
		return false
	case !r.n && x.N != 0 || x.N < 0 || x.N > maxItem:
		return false
	}
	return isFlat(x.Lit)
}

// shaper checks the shape of a function.
type shaper struct {
	f    *Func
	made []bool
}

// size returns how many instructions a function has, with the Calls of tries.
func size(f Func) int {
	n := 0
	for _, b := range f.Blocks {
		n += len(b.Ins)
		if b.End.Kind == Try {
			n++
		}
	}
	return n
}

// checkShape returns the error of the shape of a function, and where it is.
func checkShape(f Func) (Fault, api.Errno) {
	if len(f.Params) > maxParams || len(f.Blocks) < 1 || len(f.Blocks) > maxBlocks || size(f) > maxIns {
		return Fault{}, api.ErrSize
	}
	if !isName(f.Name) {
		return Fault{}, api.ErrForm
	}
	s := &shaper{f: &f}
	for b := range f.Blocks {
		if at, e := s.block(b); e != api.OK {
			return Fault{Block: b, At: at}, e
		}
	}
	return Fault{}, api.OK
}

func (s *shaper) block(b int) (int, api.Errno) {
	block := &s.f.Blocks[b]
	beginning := b > 0
	for i, x := range block.Ins {
		if e := s.ins(x); e != api.OK {
			return i, e
		}
		if x.Op == Phi && !beginning {
			return i, ErrPhi
		}
		beginning = beginning && x.Op == Phi
	}
	return len(block.Ins), s.end(block.End)
}

func (s *shaper) ins(x Ins) api.Errno {
	switch {
	case x.Op < 1 || x.Op > OpCount:
		return api.ErrArg
	case len(x.Args) < rows[x.Op].least || len(x.Args) > rows[x.Op].most:
		return api.ErrSize
	case !hasFields(x):
		return api.ErrForm
	case slices.ContainsFunc(x.Args, isFar):
		return api.ErrRange
	case x.Result < len(s.f.Params) || x.Result > maxValue:
		return api.ErrRange
	}
	return s.make(x.Result)
}

// make remembers that a value is made; nothing else may make it.
func (s *shaper) make(value int) api.Errno {
	if value >= len(s.made) {
		s.made = append(s.made, make([]bool, value+1-len(s.made))...)
	}
	if s.made[value] {
		return api.ErrTwice
	}
	s.made[value] = true
	return api.OK
}

func (s *shaper) end(x End) api.Errno {
	switch {
	case x.Kind < 1 || x.Kind > Stuck:
		return api.ErrArg
	case len(x.Args) != endRows[x.Kind].args || len(x.To) != endRows[x.Kind].to:
		return api.ErrSize
	case slices.ContainsFunc(x.Args, isFar):
		return api.ErrRange
	case x.Kind != Try && !isZeroIns(x.Call):
		return api.ErrArg
	case x.Kind == Try:
		if x.Call.Op != Call && x.Call.Op != Direct {
			return api.ErrArg
		}
		if e := s.ins(x.Call); e != api.OK {
			return e
		}
	}
	for _, to := range x.To {
		if to < 1 || to >= len(s.f.Blocks) {
			return ErrBlock
		}
	}
	if x.Kind == Try && x.To[0] == x.To[1] {
		return ErrBlock
	}
	return api.OK
}

// CheckFunc returns the error of a function, and where it is.
func CheckFunc(f Func) (Fault, api.Errno) {
	fault, e := checkShape(f)
	if e == api.OK {
		fault, e = newGraph(f).check()
	}
	return fault, e
}

// check returns the error of a function whose shape is right.
func (g *graph) check() (Fault, api.Errno) {
	for b := range g.f.Blocks {
		if g.place[b] < 0 {
			return Fault{Block: b}, ErrBlock
		}
	}
	for b, x := range g.f.Blocks {
		if x.End.Kind == Try && len(g.preds[x.End.To[0]]) > 1 {
			return Fault{Block: b, At: len(x.Ins)}, ErrBlock
		}
	}
	made := g.made()
	for b, x := range g.f.Blocks {
		if at, e := g.checkUses(b, x, made); e != api.OK {
			return Fault{Block: b, At: at}, e
		}
	}
	return Fault{}, api.OK
}

func (g *graph) checkUses(b int, x Block, made []spot) (int, api.Errno) {
	for i, y := range x.Ins {
		if y.Op == Phi {
			if e := g.checkPhi(b, y, made); e != api.OK {
				return i, e
			}
			continue
		}
		if !g.areThere(y.Args, spot{b, i}, made) {
			return i, ErrUse
		}
	}
	end := spot{b, len(x.Ins)}
	if !g.areThere(x.End.Args, end, made) || !g.areThere(x.End.Call.Args, end, made) {
		return len(x.Ins), ErrUse
	}
	return len(x.Ins), api.OK
}

func (g *graph) checkPhi(b int, x Ins, made []spot) api.Errno {
	preds := g.preds[b]
	if len(x.Args) != len(preds) {
		return ErrPhi
	}
	for i, a := range x.Args {
		if !g.isThere(a, spot{preds[i], len(g.f.Blocks[preds[i]].Ins)}, made) {
			return ErrUse
		}
	}
	return api.OK
}

// Check returns the error of a program, and where it is.
func Check(p Program) (Fault, api.Errno) {
	if len(p.Entities) > maxEntities || len(p.Funcs) > maxFuncs {
		return Fault{}, api.ErrSize
	}
	params := map[string]int{}
	for i, f := range p.Funcs {
		if fault, e := CheckFunc(f); e != api.OK {
			fault.Func = i
			return fault, e
		}
		if _, ok := params[f.Name]; ok {
			return Fault{Func: i}, api.ErrTwice
		}
		params[f.Name] = len(f.Params)
	}
	for i, f := range p.Funcs {
		if fault, e := checkDirects(f, params); e != api.OK {
			fault.Func = i
			return fault, e
		}
	}
	return Fault{}, api.OK
}

// checkDirects asks for a function for each direct, with as many parameters as this has Args.
func checkDirects(f Func, params map[string]int) (Fault, api.Errno) {
	for b, x := range f.Blocks {
		for at := range len(x.Ins) + 1 {
			y := x.End.Call
			if at < len(x.Ins) {
				y = x.Ins[at]
			}
			if y.Op != Direct {
				continue
			}
			n, ok := params[y.Text]
			switch {
			case !ok:
				return Fault{Block: b, At: at}, api.ErrNone
			case n != len(y.Args):
				return Fault{Block: b, At: at}, api.ErrSize
			}
		}
	}
	return Fault{}, api.OK
}
