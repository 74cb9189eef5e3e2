package code

import (
	"iter"
	"strconv"
	"strings"

	"hackamore/api"
	"hackamore/colour"
)

// wrong is what a reader leaves with at what has not the form.
type wrong struct{}

func must(ok bool) {
	if !ok {
		panic(wrong{})
	}
}

// isRead reports whether a reader has come to its end.
func isRead(read func()) (ok bool) {
	defer func() {
		if x := recover(); x != nil {
			ok = false
		}
	}()
	read()
	return true
}

// lines hands on the lines of a text with their numbers, each with its line feed, if it has one.
func lines(s string) iter.Seq2[int, string] {
	return func(yield func(int, string) bool) {
		for n := 1; s != ""; n++ {
			line, rest, ends := strings.Cut(s, "\n")
			if ends {
				line = s[:len(line)+1]
			}
			if !yield(n, line) {
				return
			}
			s = rest
		}
	}
}

// Lines by their order in a text.
const (
	textLine = iota
	typeLine
	valueLine
	entityLine
	selectorLine
	slotLine
	offsetLine
	colourLine
	functionLine
	wordLine
	mapLine
)

// lineOf returns what a line with a keyword is; -1 for other words.
func lineOf(keyword string) int {
	for i, k := range [...]string{"text", "type", "value", "entity", "selector", "slot", "offset", "colour", "function", "word", "map"} {
		if k == keyword {
			return i
		}
	}
	return -1
}

// reader reads a program line by line; last is what the line ahead was.
type reader struct {
	p    Program
	last int
}

// Parse returns the program with a text, or the number of a line and its error.
func Parse(s string) (Program, int, api.Errno) {
	if len(s) > MaxBytes {
		return Program{}, 0, api.ErrSize
	}
	r := &reader{}
	for n, line := range lines(s) {
		if !isRead(func() { r.line(line) }) {
			return Program{}, n, ErrLine
		}
	}
	if _, e := Check(r.p); e != api.OK {
		return Program{}, 0, e
	}
	return r.p, 0, api.OK
}

// mayFollow reports whether a line may stand behind the one ahead.
func (r *reader) mayFollow(line int) bool {
	switch line {
	case functionLine:
		return true
	case wordLine:
		return r.last == functionLine || r.last == wordLine
	case mapLine:
		return r.last >= functionLine
	}
	return line >= r.last
}

func (r *reader) line(s string) {
	s, ends := strings.CutSuffix(s, "\n")
	must(ends)
	keyword, rest, _ := strings.Cut(s, " ")
	line := lineOf(keyword)
	must(line >= 0 && r.mayFollow(line))
	r.last = line
	if line == typeLine { // the text of a type has spaces
		r.p.Types = append(r.p.Types, typeOf(rest))
		return
	}
	r.part(line, strings.Split(rest, " "))
}

// part reads the words of a line, and puts what they say behind the others of its kind.
func (r *reader) part(line int, words []string) {
	p := &r.p
	switch line {
	case textLine:
		p.Texts = append(p.Texts, nameOf(only(words)))
	case valueLine:
		p.Values = append(p.Values, valueOf(words))
	case entityLine:
		p.Entities = append(p.Entities, nameOf(only(words)))
	case selectorLine:
		p.Selectors = append(p.Selectors, nameOf(only(words)))
	case slotLine:
		must(len(words) == 2)
		p.Vector = append(p.Vector, colour.Slot{Selector: numberOf(words[0]), Method: numberOf(words[1])})
	case offsetLine:
		p.Offsets = append(p.Offsets, numberOf(only(words)))
	case colourLine:
		p.Colours = append(p.Colours, numberOf(only(words)))
	case functionLine:
		p.Functions = append(p.Functions, functionOf(words))
	case wordLine:
		f := &p.Functions[len(p.Functions)-1]
		f.Words = append(f.Words, hexOf(only(words), 8))
	case mapLine:
		f := &p.Functions[len(p.Functions)-1]
		f.Maps = append(f.Maps, mapOf(words))
	}
}

// only returns the one word that a line has.
func only(words []string) string {
	must(len(words) == 1)
	return words[0]
}

func valueOf(words []string) api.Value {
	must(len(words) == 4)
	return api.Value{Kind: numberOf(words[0]), Lo: bitsOf(words[1]), Hi: bitsOf(words[2]), Name: nameOf(words[3])}
}

func functionOf(words []string) Function {
	must(len(words) == 3)
	f := Function{Name: nameOf(words[0]), Params: numberOf(words[1])}
	if words[2] == "-" {
		return f
	}
	must(words[2] != "")
	for i := range len(words[2]) {
		c := words[2][i]
		must(c >= '0' && c <= '9')
		f.Classes = append(f.Classes, int(c-'0'))
	}
	return f
}

func mapOf(words []string) Map {
	m := Map{At: numberOf(words[0])}
	for _, w := range words[1:] {
		m.Live = append(m.Live, numberOf(w))
	}
	return m
}

func numberOf(word string) int {
	n, err := strconv.Atoi(word)
	must(err == nil && strconv.Itoa(n) == word)
	return n
}

func bitsOf(word string) uint64 {
	n, err := strconv.ParseUint(word, 10, 64)
	must(err == nil && strconv.FormatUint(n, 10) == word)
	return n
}

// hexOf reads so many hexadecimal digits.
func hexOf(word string, digits int) uint32 {
	must(len(word) == digits)
	n := uint32(0)
	for i := range digits {
		d := strings.IndexByte(hexDigits, word[i])
		must(d >= 0)
		n = n<<4 | uint32(d)
	}
	return n
}

func nameOf(word string) string {
	word, ok := strings.CutPrefix(word, "x")
	must(ok && len(word)%2 == 0)
	var w strings.Builder
	for ; word != ""; word = word[2:] {
		w.WriteByte(byte(hexOf(word[:2], 2)))
	}
	return w.String()
}
