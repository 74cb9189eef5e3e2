package cap_test

import (
	"slices"
	"strings"
	"testing"

	"hackamore/api"
	. "hackamore/cap"
)

// six are the capabilities, and marks what they may be marked with.
var (
	six   = []int{api.Iso, api.Trn, api.Ref, api.Val, api.Box, api.Tag}
	marks = []int{api.Plain, api.Ephemeral, api.Aliased}
	wrong = []int{-1, 0, api.CapRead, api.CapSend, api.CapShare, api.CapAlias, api.CapAny, 12, 1 << 40}
)

// marked is a capability with a mark, by its text.
func marked(t *testing.T, s string) (int, int) {
	t.Helper()
	mark := api.Plain
	switch s[len(s)-1] {
	case '^':
		mark = api.Ephemeral
	case '!':
		mark = api.Aliased
	}
	c, e := Parse(strings.TrimRight(s, "^!"))
	if e != api.OK {
		t.Fatalf("Parse(%s): error %d", s, e)
	}
	return c, mark
}

func text(c, mark int) string { return Name(c) + []string{"", "^", "!"}[mark] }

func TestNames(t *testing.T) {
	want := []string{"", "iso", "trn", "ref", "val", "box", "tag", "#read", "#send", "#share", "#alias", "#any", ""}
	for c, name := range want {
		if got := Name(c); got != name {
			t.Errorf("Name(%d): %q, want %q", c, got, name)
		}
		if got, e := Parse(name); name != "" && (got != c || e != api.OK) {
			t.Errorf("Parse(%s): %d, error %d", name, got, e)
		}
	}
	for _, c := range []int{-1, 0, 12, 1 << 40, -1 << 40} {
		if Name(c) != "" || len(Members(c)) > 0 {
			t.Errorf("%d has the name %q, the members %v", c, Name(c), Members(c))
		}
	}
	for _, s := range []string{"", "Iso", "iso ", "#", "read", "iso^", "#any!", "\x00"} {
		if c, e := Parse(s); c != 0 || e != api.ErrNone {
			t.Errorf("Parse(%q): %d, error %d", s, c, e)
		}
	}
}

func TestSets(t *testing.T) {
	for set, want := range map[int]string{
		api.CapRead: "ref val box", api.CapSend: "iso val tag", api.CapShare: "val tag", api.CapAlias: "ref val box tag", api.CapAny: "iso trn ref val box tag",
		api.Iso: "iso", api.Trn: "trn", api.Ref: "ref", api.Val: "val", api.Box: "box", api.Tag: "tag",
	} {
		var l []string
		for _, c := range Members(set) {
			l = append(l, Name(c))
		}
		if got := strings.Join(l, " "); got != want {
			t.Errorf("Members of %s: %s, want %s", Name(set), got, want)
		}
	}
	l := Members(api.CapAny)
	l[0] = 77
	if Members(api.CapAny)[0] != api.Iso {
		t.Error("Members are not a copy")
	}
	for _, c := range append(slices.Clone(six), wrong...) {
		name := " " + Name(c) + " "
		isSix := slices.Contains(six, c)
		for what, x := range map[string]struct {
			got  bool
			list string
		}{
			"Is": {Is(c), " iso trn ref val box tag "}, "Reads": {Reads(c), " iso trn ref val box "},
			"Writes": {Writes(c), " iso trn ref "}, "Sendable": {Sendable(c), " iso val tag "},
		} {
			if want := isSix && strings.Contains(x.list, name); x.got != want {
				t.Errorf("%s(%d): %v", what, c, x.got)
			}
		}
	}
}

// fits is the table of chapter 7.
var fits = map[string]string{
	"iso^": "iso^ iso iso! trn^ trn trn! ref val box tag", "iso": "iso iso! tag", "iso!": "iso! tag",
	"trn^": "trn^ trn trn! ref val box tag", "trn": "trn trn! box tag", "trn!": "trn! box tag",
	"ref": "ref box tag", "val": "val box tag", "box": "box tag", "tag": "tag",
}

// plain is the text of a marked capability, in which marks that play no part are left out.
func plain(c, mark int) string {
	if c != api.Iso && c != api.Trn {
		mark = api.Plain
	}
	return text(c, mark)
}

func TestFits(t *testing.T) {
	for _, a := range six {
		for _, mark := range marks {
			for _, b := range six {
				for _, other := range marks {
					want := slices.Contains(strings.Fields(fits[plain(a, mark)]), plain(b, other))
					if Fits(a, mark, b, other) != want {
						t.Errorf("Fits of %s and %s: %v", text(a, mark), text(b, other), !want)
					}
				}
			}
		}
		for _, b := range six {
			if Sub(a, b) != Fits(a, api.Ephemeral, b, api.Plain) {
				t.Errorf("Sub of %s and %s: %v", Name(a), Name(b), Sub(a, b))
			}
		}
	}
}

func TestAliasAndConsumed(t *testing.T) {
	for s, want := range map[string][2]string{
		"iso^": {"iso", "iso^"}, "iso": {"iso!", "iso^"}, "iso!": {"iso!", "iso!"},
		"trn^": {"trn", "trn^"}, "trn": {"trn!", "trn^"}, "trn!": {"trn!", "trn!"},
		"ref": {"ref", "ref"}, "ref^": {"ref", "ref"}, "ref!": {"ref", "ref"}, "val": {"val", "val"}, "val!": {"val", "val"},
		"box": {"box", "box"}, "box^": {"box", "box"}, "tag": {"tag", "tag"}, "tag!": {"tag", "tag"},
	} {
		c, mark := marked(t, s)
		if got := text(Alias(c, mark)); got != want[0] {
			t.Errorf("Alias of %s: %s, want %s", s, got, want[0])
		}
		if got := text(Consumed(c, mark)); got != want[1] {
			t.Errorf("Consumed of %s: %s, want %s", s, got, want[1])
		}
	}
}

// views and extracts are the tables of chapter 7: of each origin what is seen, and what is taken out, of iso to tag.
var views = map[int]string{
	api.Iso: "iso tag tag val tag tag", api.Trn: "iso trn box val box tag", api.Ref: "iso trn ref val box tag",
	api.Val: "val val val val val tag", api.Box: "tag box box val box tag", api.Tag: "- - - - - -",
}

var extracts = map[int]string{
	api.Iso: "iso^ tag tag val tag tag", api.Trn: "iso^ box box val box tag", api.Ref: "iso^ trn^ ref val box tag",
	api.Val: "- - - - - -", api.Box: "- - - - - -", api.Tag: "- - - - - -",
}

func TestViews(t *testing.T) {
	for _, origin := range six {
		for i, field := range six {
			got := "-"
			if c, ok := View(origin, field); ok {
				got = Name(c)
			} else if c != 0 {
				t.Errorf("View of %s, %s: %d and false", Name(origin), Name(field), c)
			}
			if want := strings.Fields(views[origin])[i]; got != want {
				t.Errorf("View of %s, %s: %s, want %s", Name(origin), Name(field), got, want)
			}
			got = "-"
			if c, mark, ok := Extract(origin, field); ok {
				got = text(c, mark)
			} else if c != 0 || mark != 0 {
				t.Errorf("Extract of %s, %s: %d, %d and false", Name(origin), Name(field), c, mark)
			}
			if want := strings.Fields(extracts[origin])[i]; got != want {
				t.Errorf("Extract of %s, %s: %s, want %s", Name(origin), Name(field), got, want)
			}
		}
	}
}

func TestStore(t *testing.T) {
	takes := map[int]string{api.Ref: "iso trn ref val box tag", api.Trn: "iso trn val tag", api.Iso: "iso val tag"}
	for _, origin := range six {
		for _, c := range six {
			for _, mark := range marks {
				counts := Name(c)
				switch text(c, mark) {
				case "iso!":
					counts = "tag"
				case "trn!":
					counts = "box"
				}
				if want := slices.Contains(strings.Fields(takes[origin]), counts); Store(origin, c, mark) != want {
					t.Errorf("Store of %s and %s: %v", Name(origin), text(c, mark), !want)
				}
			}
		}
	}
}

func TestRecover(t *testing.T) {
	for i, want := range []int{api.Iso, api.Iso, api.Iso, api.Val, api.Val, api.Tag} {
		if c, ok := Recover(six[i]); c != want || !ok {
			t.Errorf("Recover of %s: %s, %v", Name(six[i]), Name(c), ok)
		}
	}
}

func TestBeside(t *testing.T) {
	local := map[int]string{api.Iso: "tag", api.Trn: "box tag", api.Ref: "ref box tag", api.Val: "val box tag", api.Box: "trn ref val box tag", api.Tag: "iso trn ref val box tag"}
	global := map[int]string{api.Iso: "tag", api.Trn: "tag", api.Ref: "tag", api.Val: "val box tag", api.Box: "val box tag", api.Tag: "iso trn ref val box tag"}
	for _, a := range six {
		for _, b := range six {
			if want := slices.Contains(strings.Fields(local[a]), Name(b)); Local(a, b) != want {
				t.Errorf("Local of %s, %s: %v", Name(a), Name(b), !want)
			}
			if want := slices.Contains(strings.Fields(global[a]), Name(b)); Global(a, b) != want {
				t.Errorf("Global of %s, %s: %v", Name(a), Name(b), !want)
			}
		}
	}
}

// TestWrong hands what is no capability, or no mark, to each table.
func TestWrong(t *testing.T) {
	all := append(slices.Clone(six), wrong...)
	isWrong := func(c int) bool { return !slices.Contains(six, c) }
	for _, a := range all {
		for _, mark := range []int{-1, 0, 1, 2, 3, 1 << 40} {
			bad := isWrong(a) || mark < 0 || mark > 2
			if c, m := Alias(a, mark); bad && (c != 0 || m != 0) {
				t.Errorf("Alias(%d, %d): %d, %d", a, mark, c, m)
			}
			if c, m := Consumed(a, mark); bad && (c != 0 || m != 0) {
				t.Errorf("Consumed(%d, %d): %d, %d", a, mark, c, m)
			}
			for _, b := range all {
				if (bad || isWrong(b)) && (Fits(a, mark, b, 0) || Fits(b, 0, a, mark) || Store(b, a, mark)) {
					t.Errorf("Fits or Store of %d with %d, and %d", a, mark, b)
				}
			}
		}
		if c, ok := Recover(a); isWrong(a) && (c != 0 || ok) {
			t.Errorf("Recover(%d): %d, %v", a, c, ok)
		}
		for _, b := range all {
			if !isWrong(a) && !isWrong(b) {
				continue
			}
			c, ok := View(a, b)
			x, m, is := Extract(a, b)
			if c != 0 || ok || x != 0 || m != 0 || is || Local(a, b) || Global(a, b) || Sub(a, b) {
				t.Errorf("tables of %d and %d: %d, %v, %d, %d, %v, %v, %v, %v", a, b, c, ok, x, m, is, Local(a, b), Global(a, b), Sub(a, b))
			}
		}
	}
}

// permits reports whether the first capability permits no more than the second one.
func permits(a, b int) bool { return (!Reads(a) || Reads(b)) && (!Writes(a) || Writes(b)) }

// TestOrder: promise 7.2.
func TestOrder(t *testing.T) {
	type at struct{ c, mark int }
	var l []at
	for _, c := range six {
		for _, mark := range marks {
			l = append(l, at{c, mark})
		}
	}
	for _, a := range l {
		if !Fits(a.c, a.mark, a.c, a.mark) || !Fits(api.Iso, api.Ephemeral, a.c, a.mark) {
			t.Errorf("%s fits not itself, or no iso^ fits it", text(a.c, a.mark))
		}
		for _, b := range l {
			if Fits(a.c, a.mark, b.c, b.mark) && !permits(b.c, a.c) {
				t.Errorf("%s permits more than %s", text(b.c, b.mark), text(a.c, a.mark))
			}
			for _, c := range l {
				if Fits(a.c, a.mark, b.c, b.mark) && Fits(b.c, b.mark, c.c, c.mark) && !Fits(a.c, a.mark, c.c, c.mark) {
					t.Errorf("%s, %s, %s", text(a.c, a.mark), text(b.c, b.mark), text(c.c, c.mark))
				}
			}
		}
	}
}

// TestSeen: promise 7.3.
func TestSeen(t *testing.T) {
	for _, origin := range six {
		for _, field := range six {
			if c, ok := View(origin, field); ok && (!permits(c, field) || Writes(c) && !Writes(origin)) {
				t.Errorf("View of %s, %s: %s", Name(origin), Name(field), Name(c))
			}
			if c, _, ok := Extract(origin, field); ok && !permits(c, field) {
				t.Errorf("Extract of %s, %s: %s", Name(origin), Name(field), Name(c))
			}
			if c, _ := View(api.Ref, field); c != field {
				t.Errorf("View of ref, %s: %s", Name(field), Name(c))
			}
		}
	}
}

// TestTogether: promise 7.4.
func TestTogether(t *testing.T) {
	for _, a := range six {
		for _, b := range six {
			if Local(a, b) != Local(b, a) || Global(a, b) != Global(b, a) || Global(a, b) && !Local(a, b) || Writes(a) && Reads(b) && Global(a, b) {
				t.Errorf("%s beside %s", Name(a), Name(b))
			}
			if c, mark := Alias(a, api.Plain); Fits(c, mark, b, api.Plain) && !Local(a, b) {
				t.Errorf("%s beside its alias %s", Name(a), Name(b))
			}
			if !Sendable(b) || !Sub(a, b) {
				continue
			}
			for _, c := range six {
				if Local(a, c) && !Global(b, c) {
					t.Errorf("%s is given up as %s to another actor, beside %s", Name(a), Name(b), Name(c))
				}
			}
		}
	}
}
