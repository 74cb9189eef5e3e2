package token

import (
	"iter"
	"math/bits"
	"strings"
	"unicode/utf8"

	"hackamore/api"
)

// failure is what a reader panics with: the error, and where its token begins.
type failure struct {
	at   int
	code api.Errno
}

// cursor reads a text; its functions share one place.
type cursor struct {
	at   func() int                      // the place
	rest func() string                   // the text from the place on
	skip func(n int)                     // goes on by n bytes
	take func(is func(byte) bool) string // goes on as long as bytes are so, and returns them
}

func over(text string) cursor {
	at := 0
	return cursor{
		at:   func() int { return at },
		rest: func() string { return text[at:] },
		skip: func(n int) { at += n },
		take: func(is func(byte) bool) string {
			from := at
			for at < len(text) && is(text[at]) {
				at++
			}
			return text[from:at]
		},
	}
}

// scanner has the cursor, and where the token or comment begins that it reads.
type scanner struct {
	cursor
	start int
	words map[string]bool
}

// scan is Scan of a text of any length.
func scan(text string) (l []Token, at int, e api.Errno) {
	defer func() {
		if x := recover(); x != nil {
			f, ok := x.(failure)
			if !ok {
				f.code = api.ErrForm
			}
			l, at, e = nil, f.at, f.code
		}
	}()
	s := scanner{cursor: over(text), words: keywordSet()}
	for {
		line := s.blanks()
		if s.rest() == "" {
			return l, 0, api.OK
		}
		t := s.token()
		t.Line = line || len(l) == 0
		l = append(l, t)
	}
}

func (s *scanner) fail(code api.Errno) { panic(failure{s.start, code}) }

// blanks goes on behind blanks and comments, and reports whether a line feed was among them.
func (s *scanner) blanks() bool {
	line := false
	for {
		s.start = s.at()
		part := s.blank()
		if part == "" {
			return line
		}
		if !utf8.ValidString(part) {
			s.fail(ErrComment)
		}
		line = line || strings.Contains(part, "\n")
		s.skip(len(part))
	}
}

// blank returns the blanks, or the comment, that stand at the place.
func (s *scanner) blank() string {
	rest := s.rest()
	switch {
	case strings.HasPrefix(rest, "//"):
		line, _, _ := strings.Cut(rest, "\n")
		return line
	case strings.HasPrefix(rest, "/*"):
		n := commentLength(rest)
		if n == 0 {
			s.fail(ErrComment)
		}
		return rest[:n]
	}
	return rest[:len(rest)-len(strings.TrimLeft(rest, " \t\r\n"))]
}

// commentLength is the length of the nested comment with which a text begins, 0 if it is not closed.
func commentLength(text string) int {
	depth := 0
	for i := 0; i+1 < len(text); i++ {
		switch text[i : i+2] {
		case "/*":
			depth++
			i++
		case "*/":
			depth--
			i++
			if depth == 0 {
				return i + 1
			}
		}
	}
	return 0
}

// token reads the token that begins at the place.
func (s *scanner) token() Token {
	s.start = s.at()
	c := s.rest()[0]
	t := Token{At: s.start}
	switch {
	case isLetter(c) || c == '_':
		t.Kind, t.Text = s.word()
	case isDigit(c):
		t.Kind, t.Text = s.number()
	case c == '"':
		t.Kind, t.Text = String, s.text()
	case c == '\'':
		t.Kind, t.Text = Int, s.character()
	default:
		t.Kind, t.Text = Symbol, s.symbol()
	}
	return t
}

func (s *scanner) word() (int, string) {
	text := s.take(isPart)
	text += s.take(func(c byte) bool { return c == '\'' })
	if s.words[text] {
		return Keyword, text
	}
	return Ident, text
}

func (s *scanner) symbol() string {
	rest := s.rest()
	for _, text := range symbols() {
		if !strings.HasPrefix(rest, text) {
			continue
		}
		behind := rest[len(text):]
		if isLetter(text[len(text)-1]) && behind != "" && isPart(behind[0]) {
			continue
		}
		s.skip(len(text))
		return text
	}
	s.fail(ErrChar)
	return ""
}

// number reads an Int or a Float that begins with a digit.
func (s *scanner) number() (kind int, text string) {
	rest := s.rest()
	switch {
	case strings.HasPrefix(rest, "0x"):
		s.skip(2)
		kind, text = Int, s.decimal(s.digits(isHex), 16)
	case strings.HasPrefix(rest, "0b"):
		s.skip(2)
		kind, text = Int, s.decimal(s.digits(isBinary), 2)
	default:
		kind, text = s.point(s.digits(isDigit))
		if kind == Int {
			text = s.decimal(text, 10)
		}
	}
	if behind := s.rest(); behind != "" && isPart(behind[0]) {
		s.fail(ErrNumber)
	}
	return kind, text
}

// point reads what makes a Float of decimal digits, if it is there.
func (s *scanner) point(whole string) (int, string) {
	kind, text := Int, whole
	if rest := s.rest(); len(rest) > 1 && rest[0] == '.' && isDigit(rest[1]) {
		s.skip(1)
		kind, text = Float, text+"."+s.digits(isDigit)
	}
	if rest := s.rest(); rest != "" && (rest[0] == 'e' || rest[0] == 'E') {
		s.skip(1)
		kind, text = Float, text+"e"+s.sign()+s.digits(isDigit)
	}
	return kind, text
}

func (s *scanner) sign() string {
	if rest := s.rest(); rest != "" && (rest[0] == '+' || rest[0] == '-') {
		s.skip(1)
		return rest[:1]
	}
	return ""
}

// digits reads one digit or more, and returns them without the `_` that stand between two of them.
func (s *scanner) digits(is func(byte) bool) string {
	run := s.take(func(c byte) bool { return c == '_' || is(c) })
	if run == "" || run[0] == '_' || run[len(run)-1] == '_' || strings.Contains(run, "__") {
		s.fail(ErrNumber)
	}
	return strings.ReplaceAll(run, "_", "")
}

func isHex(c byte) bool { return isDigit(c) || c >= 'a' && c <= 'f' || c >= 'A' && c <= 'F' }

func isBinary(c byte) bool { return c == '0' || c == '1' }

// values hands on the values of digits.
func values(digits string) iter.Seq[uint64] {
	return func(yield func(uint64) bool) {
		for i := range len(digits) {
			v := uint64(digits[i] - '0')
			if isLetter(digits[i]) {
				v = uint64(digits[i]|0x20-'a') + 10
			}
			if !yield(v) {
				return
			}
		}
	}
}

// decimal returns the decimal digits of a number with a base, which must have at most 128 bits.
func (s *scanner) decimal(digits string, base uint64) string {
	var hi, lo, over, carry uint64
	for v := range values(digits) {
		over, hi = bits.Mul64(hi, base)
		up, low := bits.Mul64(lo, base)
		lo, carry = bits.Add64(low, v, 0)
		hi, carry = bits.Add64(hi, up, carry)
		if over+carry > 0 {
			s.fail(ErrNumber)
		}
	}
	return wide(hi, lo)
}

// wide returns the decimal digits of a number of 128 bits.
func wide(hi, lo uint64) string {
	var b [39]byte // 2^128 has 39 digits
	at := len(b)
	for {
		at--
		digit := hi % 10
		hi /= 10
		lo, digit = bits.Div64(digit, lo, 10)
		b[at] = '0' + byte(digit)
		if hi == 0 && lo == 0 {
			return string(b[at:])
		}
	}
}

// text reads a String of one of both kinds.
func (s *scanner) text() string {
	const fence = `"""`
	inner, long := strings.CutPrefix(s.rest(), fence)
	if !long {
		s.skip(1)
		return s.quoted('"')
	}
	text, _, closed := strings.Cut(inner, fence)
	if !closed || !utf8.ValidString(text) {
		s.fail(ErrString)
	}
	s.skip(len(fence) + len(text) + len(fence))
	return text
}

// character reads a character, and returns its number.
func (s *scanner) character() string {
	s.skip(1)
	text := s.quoted('\'')
	c, n := utf8.DecodeRuneInString(text)
	if n == 0 || n < len(text) {
		s.fail(ErrString)
	}
	return wide(0, uint64(c))
}

// quoted reads what stands ahead of a closing quote, and this quote, and returns what it denotes.
func (s *scanner) quoted(end byte) string {
	plain := func(c byte) bool { return c != end && c != '\\' && c != '\n' }
	var b strings.Builder
	for {
		b.WriteString(s.take(plain))
		rest := s.rest()
		if rest == "" || rest[0] == '\n' {
			s.fail(ErrString)
		}
		s.skip(1)
		if rest[0] == end {
			break
		}
		b.WriteRune(s.escape())
	}
	if !utf8.ValidString(b.String()) {
		s.fail(ErrString)
	}
	return b.String()
}

// escape reads an escape behind its backslash.
func (s *scanner) escape() rune {
	rest := s.rest()
	if rest == "" {
		s.fail(ErrString)
	}
	s.skip(1)
	switch rest[0] {
	case 'n':
		return '\n'
	case 't':
		return '\t'
	case 'r':
		return '\r'
	case '0':
		return 0
	case '\\', '"', '\'':
		return rune(rest[0])
	case 'x':
		return s.coded(2, 127)
	case 'u':
		return s.coded(4, utf8.MaxRune)
	case 'U':
		return s.coded(6, utf8.MaxRune)
	}
	s.fail(ErrString)
	return 0
}

// coded reads the number of a character: hexadecimal digits, for at most a greatest one.
func (s *scanner) coded(digits int, most rune) rune {
	rest := s.rest()
	if len(rest) < digits {
		s.fail(ErrString)
	}
	for i := range digits {
		if !isHex(rest[i]) {
			s.fail(ErrString)
		}
	}
	c := rune(0)
	for v := range values(rest[:digits]) {
		c = c<<4 | rune(v)
	}
	if c > most || !utf8.ValidRune(c) {
		s.fail(ErrString)
	}
	s.skip(digits)
	return c
}
