package token

import (
	"math/rand"
	"reflect"
	"slices"
	"strings"
	"testing"
	"unicode/utf8"

	"hackamore/api"
)

// shown writes tokens as kind:text, with a bar ahead of those that have Line.
func shown(l []Token) string {
	names := [...]string{"", "ident", "keyword", "int", "float", "string", "symbol"}
	var parts []string
	for _, t := range l {
		line := ""
		if t.Line {
			line = "|"
		}
		parts = append(parts, line+names[t.Kind]+":"+t.Text)
	}
	return strings.Join(parts, " ")
}

func TestScan(t *testing.T) {
	for text, want := range map[string]string{
		"":                               "",
		" \t\r\n":                        "",
		"let x' = 0xFF // a":             "|keyword:let ident:x' symbol:= int:255",
		"1.e":                            "|int:1 symbol:. ident:e",
		"a.>b":                           "|ident:a symbol:.> ident:b",
		`"a\x41"`:                        "|string:aA",
		"a\nb":                           "|ident:a |ident:b",
		"a /*\n*/ b":                     "|ident:a |ident:b",
		"a /* */ b":                      "|ident:a ident:b",
		"a // x\nb":                      "|ident:a |ident:b",
		"a /* /* */ */ b":                "|ident:a ident:b",
		"/**/a/*/**/*/b":                 "|ident:a ident:b",
		"let' _ __a9'' A":                "|ident:let' ident:_ ident:__a9'' ident:A",
		"0 007 1_000 0b1_01 0xfF_0":      "|int:0 int:7 int:1000 int:5 int:4080",
		"1.5 1e5 1E+5 1.5e-07 1_0.0_1e0": "|float:1.5 float:1e5 float:1e+5 float:1.5e-07 float:10.01e0",
		"1.5.2 0x1.5 1._5":               "|float:1.5 symbol:. int:2 int:1 symbol:. int:5 int:1 symbol:. ident:_5",
		`'a' '\n' '\'' '"' 'é' '\u20AC'`: "|int:97 int:10 int:39 int:34 int:233 int:8364",
		`'\U10FFFF' '\0' '\x7f'`:         "|int:1114111 int:0 int:127",
		"a'b'":                           "|ident:a' ident:b'",
		"1'a'":                           "|int:1 int:97",
		`"" "\t\r\0\"\\\'é"`:             "|string: string:\t\r\x00\"\\'é",
		`"""a\n"b""c""" x`:               "|string:a\\n\"b\"\"c ident:x",
		`""""""`:                         "|string:",
		"\"\"\"a\nb\"\"\" c":             "|string:a\nb ident:c",
		"<<=>>==":                        "|symbol:<< symbol:=> symbol:>= symbol:=",
		"->-?-.>.":                       "|symbol:-> symbol:-? symbol:- symbol:.> symbol:.",
		"#read #send#any #alias(":        "|symbol:#read symbol:#send symbol:#any symbol:#alias symbol:(",
		"a+?b+ ?":                        "|ident:a symbol:+? ident:b symbol:+ symbol:?",
		"340282366920938463463374607431768211455":    "|int:340282366920938463463374607431768211455",
		"0xFFFFFFFFFFFFFFFFFFFFFFFFFFFFFFFF":         "|int:340282366920938463463374607431768211455",
		"0x8000000000000000 0x10000000000000000":     "|int:9223372036854775808 int:18446744073709551616",
		"0b0000000000000000000000000000000000000001": "|int:1",
	} {
		l, at, e := Scan(text)
		if e != api.OK || at != 0 || shown(l) != want {
			t.Errorf("Scan(%q): %s, %d, error %d; want %s", text, shown(l), at, e, want)
		}
	}
}

func TestScanErrors(t *testing.T) {
	for text, want := range map[string]api.Errno{
		"@": ErrChar, "#": ErrChar, "#reads": ErrChar, "#read1": ErrChar, "#any_": ErrChar, "é": ErrChar, "\xff": ErrChar,
		"\\": ErrChar, "$": ErrChar, "`": ErrChar, "\x00": ErrChar, "\v": ErrChar, "\u00a0": ErrChar, "\ufeff": ErrChar,
		"/*": ErrComment, "/*/": ErrComment, "/* /* */": ErrComment, "/* \xff */": ErrComment, "// \xc3": ErrComment, "/*/*/": ErrComment,
		`"a`: ErrString, "\"a\n\"": ErrString, `"\q"`: ErrString, `"\`: ErrString, "\"\xff\"": ErrString, `"\x80"`: ErrString, `"\x4"`: ErrString,
		`"\xg0"`: ErrString, `"\uD800"`: ErrString, `"\u12"`: ErrString, `"\U110000"`: ErrString, `"\U00DFFF"`: ErrString, `"\U12345"`: ErrString,
		`""` + `"a""`: ErrString, `"""`: ErrString, `"""""""`: ErrString, "\"\"\"\xff\"\"\"": ErrString, "\"\\\n\"": ErrString, "\"\xc3\\u00a9\"": ErrString,
		"''": ErrString, "'ab'": ErrString, "'": ErrString, "'a": ErrString, "'\n'": ErrString, "'\xff'": ErrString, `'\x80'`: ErrString, "'''": ErrString,
		"1_": ErrNumber, "1__0": ErrNumber, "1x": ErrNumber, "0x": ErrNumber, "0b": ErrNumber, "0b2": ErrNumber, "0b12": ErrNumber, "0x_1": ErrNumber,
		"0_x1": ErrNumber, "0X1": ErrNumber, "0B1": ErrNumber, "0xG": ErrNumber, "1e": ErrNumber, "1e+": ErrNumber, "1e_5": ErrNumber, "1_e5": ErrNumber, "1.5_": ErrNumber,
		"1.5e": ErrNumber, "1.5x": ErrNumber, "1e5e5": ErrNumber, "0x1_": ErrNumber, "1é": ErrChar, "1.5_e1": ErrNumber, "1a'": ErrNumber,
		"340282366920938463463374607431768211456": ErrNumber, "0x100000000000000000000000000000000": ErrNumber,
		"3402823669209384634633746074317682114550": ErrNumber,
	} {
		place := 2
		if want == ErrChar && text == "1é" {
			place = 3
		}
		switch text {
		case `"""""""`:
			place = 8
		case "'''":
			place = 2
		}
		if l, at, e := Scan("x " + text); e != want || at != place || l != nil {
			t.Errorf("Scan of x %q: %v, place %d, error %d; want place %d, error %d", text, l, at, e, place, want)
		}
	}
	if _, at, e := Scan(strings.Repeat(" ", api.MaxSource)); at != 0 || e != api.OK {
		t.Errorf("a text of MaxSource bytes: place %d, error %d", at, e)
	}
	if _, at, e := Scan(strings.Repeat("@", api.MaxSource+1)); at != 0 || e != api.ErrLarge {
		t.Errorf("a text of more than MaxSource bytes: place %d, error %d", at, e)
	}
	if _, at, e := Scan("a 1x @"); at != 2 || e != ErrNumber {
		t.Errorf("the first of two errors: place %d, error %d", at, e)
	}
}

func TestText(t *testing.T) {
	l, _, _ := Scan("f (\n1)")
	if s, e := Text(l); e != api.OK || s != "f (\n1 )" {
		t.Errorf("Text: %q, error %d", s, e)
	}
	if s, e := Text(nil); e != api.OK || s != "" {
		t.Errorf("Text of nothing: %q, error %d", s, e)
	}
	one := func(kind int, text string) []Token { return []Token{{kind, text, 99, true}} }
	for _, x := range []Token{{Ident, "a'", 0, false}, {Keyword, "xor", 0, false}, {Int, "0", 0, false}, {Int, "12", 0, false}, {Float, "00.5e-0", 0, false}, {Float, "1e5", 0, false}, {String, "a\n\"\x7f", 0, false}, {Symbol, "#any", 0, false}} {
		s, e := Text(one(x.Kind, x.Text))
		m, _, f := Scan(s)
		if e != api.OK || f != api.OK || len(m) != 1 || m[0].Kind != x.Kind || m[0].Text != x.Text {
			t.Errorf("Text of %v: %q, errors %d %d", x, s, e, f)
		}
	}
	for _, x := range []Token{{0, "a", 0, true}, {7, "a", 0, true}, {-1, "a", 0, true}, {Ident, "", 0, true}, {Ident, "if", 0, true}, {Ident, "1a", 0, true}, {Ident, "a'b", 0, true}, {Ident, "'", 0, true}, {Ident, "é", 0, true}, {Ident, "a b", 0, true}, {Keyword, "a", 0, true}, {Keyword, "", 0, true}, {Int, "01", 0, true}, {Int, "", 0, true}, {Int, "-1", 0, true}, {Int, "0x1", 0, true}, {Int, "'a'", 0, true}, {Int, "1 ", 0, true}, {Int, "1//", 0, true}, {Int, "1.5", 0, true}, {Int, "340282366920938463463374607431768211456", 0, true}, {Float, "1", 0, true}, {Float, "1_0.5", 0, true}, {Float, "1E5", 0, true}, {Float, ".5", 0, true}, {String, "\xff", 0, true}, {Symbol, "#", 0, true}, {Symbol, "", 0, true}, {Symbol, "=>>", 0, true}, {Ident, "a", 0, false}} {
		if s, e := Text([]Token{x}); e != api.ErrForm || s != "" {
			t.Errorf("Text of %v: %q, error %d", x, s, e)
		}
	}
	long := strings.Repeat("a", api.MaxSource)
	if s, e := Text(one(Ident, long)); e != api.OK || s != long {
		t.Errorf("an Ident of MaxSource bytes: error %d", e)
	}
	if _, e := Text(one(Ident, long+"a")); e != api.ErrLarge {
		t.Errorf("an Ident of more than MaxSource bytes: error %d", e)
	}
	if _, e := Text(append(one(Ident, long), Token{Ident, "a", 0, true}, Token{Ident, "", 0, true})); e != api.ErrLarge {
		t.Errorf("a text that is too large ahead of a wrong token: error %d", e)
	}
	if _, e := Text(append(one(Ident, long), Token{Ident, "", 0, true})); e != api.ErrForm {
		t.Errorf("a wrong token that would be too large, too: error %d", e)
	}
}

func TestLists(t *testing.T) {
	if l := Keywords(); len(l) != 51 || l[0] != "actor" || l[50] != "xor" || !slices.IsSorted(l) {
		t.Errorf("Keywords: %v", l)
	}
	if l := Symbols(); len(l) != 43 || l[0] != "<<" || l[14] != "#read" || l[42] != "~" {
		t.Errorf("Symbols: %v", l)
	}
	l := Keywords()
	l[0] = "x"
	if Keywords()[0] != "actor" {
		t.Error("Keywords hands out its own list")
	}
	for s, want := range map[string]bool{"a": true, "_": true, "_1": true, "A'": true, "a''": true, "if": false, "if'": true, "": false, "'": false, "1": false, "a'b": false, "a-b": false, "é": false, strings.Repeat("a", 60): true, strings.Repeat("a", 61): false} {
		if IsIdent(s) != want {
			t.Errorf("IsIdent(%q) is not %v", s, want)
		}
	}
}

func TestQuote(t *testing.T) {
	for s, want := range map[string]string{"": `""`, "a\n\"\x01": `"a\n\"\x01"`, "\t\r\x00\\'": `"\t\r\0\\'"`, "\x7f\x1f\x0b": `"\x7F\x1F\x0B"`, "é€\u0085 ~": "\"é€\u0085 ~\""} {
		if q, e := Quote(s); e != api.OK || q != want {
			t.Errorf("Quote(%q): %s, error %d; want %s", s, q, e, want)
		}
	}
	for _, s := range []string{"\xff", "a\xc3", "\xed\xa0\x80"} {
		if q, e := Quote(s); e != api.ErrForm || q != "" {
			t.Errorf("Quote(%q): %s, error %d", s, q, e)
		}
	}
}

// chance returns a text of pieces that are likely to be tokens.
func chance(r *rand.Rand) string {
	pieces := append(append(Keywords(), Symbols()...), " ", " ", "\n", "\t", "a", "x'", "_", "1", "0x1F", "1.5", "2e3", "'a'", "\"s\\n\"", "\"\"\"t\n\"\"\"", "// c\n", "/* /* */ */", "\"", "'", "é", "\xff", "\\", "@")
	var b strings.Builder
	for range r.Intn(12) {
		b.WriteString(pieces[r.Intn(len(pieces))])
		if r.Intn(2) == 0 {
			b.WriteByte(' ')
		}
	}
	return b.String()
}

func without(l []Token) []Token {
	out := slices.Clone(l)
	for i := range out {
		out[i].At = 0
	}
	return out
}

// TestThereAndBack checks P1.2, P1.3, P1.4 and that errors have no tokens, on texts by chance.
func TestThereAndBack(t *testing.T) {
	r := rand.New(rand.NewSource(1))
	good := 0
	for range 6000 {
		text := chance(r)
		l, at, e := Scan(text)
		m, at2, e2 := Scan(text)
		if !reflect.DeepEqual(l, m) || at != at2 || e != e2 {
			t.Fatalf("Scan(%q) differs from itself", text)
		}
		if e != api.OK {
			if l != nil || at < 0 || at >= len(text) {
				t.Fatalf("Scan(%q): %v, place %d, error %d", text, l, at, e)
			}
			continue
		}
		good++
		s, e := Text(l)
		m, _, f := Scan(s)
		if e != api.OK || f != api.OK || !reflect.DeepEqual(without(l), without(m)) {
			t.Fatalf("Text of Scan(%q): %q, errors %d %d", text, s, e, f)
		}
		checkPlaces(t, text, l)
	}
	if good < 500 {
		t.Errorf("only %d texts were good", good)
	}
}

func checkPlaces(t *testing.T, text string, l []Token) {
	t.Helper()
	for i, x := range l {
		if i > 0 && x.At <= l[i-1].At {
			t.Fatalf("%q: the places do not ascend", text)
		}
		m, _, e := Scan(text[:x.At])
		if e != api.OK || !reflect.DeepEqual(append([]Token{}, m...), append([]Token{}, l[:i]...)) {
			t.Fatalf("%q cut at %d: %v, error %d", text, x.At, m, e)
		}
		m, _, e = Scan(text[:x.At] + "\n" + text[x.At:])
		if e != api.OK || len(m) != len(l) || m[i].Text != x.Text || m[i].Kind != x.Kind || !m[i].Line || m[i].At != x.At+1 {
			t.Fatalf("%q with a line feed at %d: %v, error %d", text, x.At, m, e)
		}
	}
}

// TestQuoted checks P1.5.
func TestQuoted(t *testing.T) {
	r := rand.New(rand.NewSource(2))
	for range 5000 {
		var b strings.Builder
		for range r.Intn(10) {
			b.WriteRune([]rune{rune(r.Intn(128)), rune(r.Intn(0x3000)), '"', '\\', 'x', '\n'}[r.Intn(6)])
		}
		s := b.String()
		q, e := Quote(s)
		l, _, f := Scan(q)
		if e != api.OK || f != api.OK || len(l) != 1 || l[0].Kind != String || l[0].Text != s {
			t.Fatalf("Scan of Quote(%q): %v, errors %d %d", s, l, e, f)
		}
	}
}

func FuzzScan(f *testing.F) {
	f.Add("let x' = 0xFF // a")
	f.Add("\"\"\"a\"\"\" 'b' 1.5e3 #any")
	f.Fuzz(func(t *testing.T, text string) {
		l, at, e := Scan(text)
		if e == api.OK {
			if s, e := Text(l); e == api.OK {
				m, _, _ := Scan(s)
				if !reflect.DeepEqual(without(l), without(m)) {
					t.Fatalf("%q: %q", text, s)
				}
			}
		} else if l != nil || at > len(text) {
			t.Fatalf("%q: %v at %d", text, l, at)
		}
		if q, e := Quote(text); (e == api.OK) != utf8.ValidString(text) {
			t.Fatalf("Quote(%q): %q", text, q)
		}
	})
}
