package ssa

import (
	"iter"
	"math"
	"slices"
	"strconv"
	"strings"

	"hackamore/api"
)

// badLine is what a reader leaves with at a line that has not the form.
type badLine struct{}

func leave() { panic(badLine{}) }

func must(ok bool) {
	if !ok {
		leave()
	}
}

// lines hands on the lines of a text with their numbers, each with its line feed, if it has one.
func lines(s string) iter.Seq2[int, string] {
	return func(yield func(int, string) bool) {
		for n := 1; s != ""; n++ {
			end := strings.IndexByte(s, '\n') + 1
			if end == 0 {
				end = len(s)
			}
			if !yield(n, s[:end]) {
				return
			}
			s = s[end:]
		}
	}
}

// reader reads functions line by line: inBlock, if the last block has no end yet.
type reader struct {
	l       []Func
	inBlock bool
}

// Parse returns the functions with a text, or the number of a line and its error.
func Parse(s string) ([]Func, int, api.Errno) {
	if len(s) > maxText {
		return nil, 0, api.ErrSize
	}
	r, last := &reader{}, 0
	for n, line := range lines(s) {
		if !r.read(line) {
			return nil, n, ErrLine
		}
		last = n
	}
	if r.inBlock || !r.isWhole() {
		return nil, last + 1, ErrLine
	}
	if e := checkAllWritable(r.l); e != api.OK {
		return nil, 0, e
	}
	return r.l, 0, api.OK
}

// isWhole reports whether the last function, if there is one, has a block.
func (r *reader) isWhole() bool { return len(r.l) == 0 || len(r.l[len(r.l)-1].Blocks) > 0 }

// read reads a line; false, if it has not the form.
func (r *reader) read(line string) (ok bool) {
	defer func() {
		if x := recover(); x != nil {
			ok = false
		}
	}()
	line, isWhole := strings.CutSuffix(line, "\n")
	must(isWhole)
	r.line(strings.Split(line, " "))
	return true
}

func (r *reader) line(words []string) {
	switch {
	case r.inBlock:
		f := &r.l[len(r.l)-1]
		r.inBlock = f.Blocks[len(f.Blocks)-1].read(words)
	case words[0] == "func":
		must(r.isWhole())
		r.l = append(r.l, function(words[1:]))
	case words[0] == "block":
		must(len(words) == 1 && len(r.l) > 0)
		f := &r.l[len(r.l)-1]
		f.Blocks = append(f.Blocks, Block{})
		r.inBlock = true
	default:
		leave()
	}
}

func function(words []string) Func {
	must(len(words) >= 3)
	f := Func{Name: nameOf(words[0]), Result: typeOf(words[1]), Partial: flagOf(words[2])}
	f.Params = mapped(words[3:], typeOf)
	return f
}

// read reads an instruction, or the end; it reports whether the block goes on.
func (b *Block) read(words []string) bool {
	kind := slices.IndexFunc(endRows[:], func(r endRow) bool { return r.name == words[0] })
	if kind < 1 {
		b.Ins = append(b.Ins, insOf(words))
		return true
	}
	must(len(words) >= 3)
	b.End = End{Kind: kind, Args: listOf(words[1]), To: listOf(words[2])}
	if kind == Try {
		b.End.Call = insOf(words[3:])
	} else {
		must(len(words) == 3)
	}
	return false
}

func insOf(words []string) Ins {
	must(len(words) == 9)
	op := slices.IndexFunc(rows[:], func(r row) bool { return r.name == words[0] })
	must(op > 0)
	return Ins{
		Op: op, Result: numberOf(words[1]), Type: typeOf(words[2]), Args: listOf(words[3]), Text: nameOf(words[4]), Name: nameOf(words[5]),
		Lit: valueOf(words[6]), N: numberOf(words[7]), Flag: flagOf(words[8]),
	}
}

func flagOf(word string) bool {
	must(word == "0" || word == "1")
	return word == "1"
}

// unsigned reads a number up to a greatest one.
func unsigned(word string, most uint64) uint64 {
	n, err := strconv.ParseUint(word, 10, 64)
	must(err == nil && n <= most && strconv.FormatUint(n, 10) == word)
	return n
}

func numberOf(word string) int {
	const most = 1000000000
	return int(unsigned(word, most))
}

func listOf(word string) []int {
	if word == "-" {
		return nil
	}
	return mapped(strings.Split(word, ","), numberOf)
}

func nameOf(word string) string {
	p := &part{rest: word}
	s := p.name()
	must(p.rest == "")
	return s
}

func typeOf(word string) api.Type {
	p := &part{rest: word}
	t := p.typ(1)
	must(p.rest == "")
	return t
}

func valueOf(word string) api.Value {
	p := &part{rest: word}
	v := p.value(1)
	must(p.rest == "")
	return v
}

// part is what is not read yet of a word.
type part struct{ rest string }

func (p *part) skip(s string) {
	rest, ok := strings.CutPrefix(p.rest, s)
	must(ok)
	p.rest = rest
}

func (p *part) digits() string {
	n := 0
	for n < len(p.rest) && p.rest[n] >= '0' && p.rest[n] <= '9' {
		n++
	}
	s := p.rest[:n]
	p.rest = p.rest[n:]
	return s
}

func (p *part) name() string {
	p.skip("x")
	var out []byte
	for p.rest != "" {
		c := p.rest[0]
		switch {
		case isPlainByte(c):
			p.rest = p.rest[1:]
		case c == '~':
			c = p.escaped()
		default:
			return string(out)
		}
		out = append(out, c)
	}
	return string(out)
}

// escaped reads a byte that must not stand for itself.
func (p *part) escaped() byte {
	const digits = "0123456789abcdef"
	must(len(p.rest) >= 3)
	high, low := strings.IndexByte(digits, p.rest[1]), strings.IndexByte(digits, p.rest[2])
	must(high >= 0 && low >= 0)
	c := byte(high<<4 | low)
	must(!isPlainByte(c))
	p.rest = p.rest[3:]
	return c
}

func (p *part) typ(depth int) api.Type {
	must(depth <= maxTypeDepth)
	t := api.Type{Kind: numberOf(p.digits())}
	p.skip(":")
	t.Name = p.name()
	p.skip(":")
	t.Cap = numberOf(p.digits())
	p.skip(":")
	t.Mark = numberOf(p.digits())
	t.Args = partsOf(p, depth, (*part).typ)
	return t
}

func (p *part) value(depth int) api.Value {
	must(depth <= maxTypeDepth)
	v := api.Value{Kind: numberOf(p.digits())}
	p.skip(":")
	v.Lo = unsigned(p.digits(), math.MaxUint64)
	p.skip(":")
	v.Hi = unsigned(p.digits(), math.MaxUint64)
	p.skip(":")
	v.Name = p.name()
	v.Kids = partsOf(p, depth, (*part).value)
	return v
}

// partsOf reads what a type or a value has in brackets, if it has any.
func partsOf[T any](p *part, depth int, read func(*part, int) T) []T {
	var l []T
	for open := "("; strings.HasPrefix(p.rest, open); open = "," {
		p.skip(open)
		l = append(l, read(p, depth+1))
	}
	if l != nil {
		p.skip(")")
	}
	return l
}
