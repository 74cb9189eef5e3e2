package code

import (
	"strings"

	"hackamore/api"
	"hackamore/types"
)

// longest is how many bytes a text may have that types.Parse reads.
const longest = 20000

// typeOf reads a type. Its text may be longer than types.Parse reads: then it is taken apart into the texts of its Args, as often as it must.
func typeOf(s string) api.Type {
	if len(s) <= longest {
		t, e := types.Parse(s)
		must(e == api.OK)
		return t
	}
	t := longType(s, 1)
	text, e := types.Text(t)
	must(e == api.OK && text == s)
	return t
}

// longType reads a type that stands in depth - 1 others, each of which has a text that is too long.
func longType(s string, depth int) api.Type {
	if len(s) <= longest {
		return typeOf(s)
	}
	must(depth <= types.MaxDepth)
	if rest, isGroup := strings.CutPrefix(s, "("); isGroup {
		inner, rest := inBrackets(rest)
		must(rest == "")
		kind, l := group(inner)
		return api.Type{Kind: kind, Args: longTypes(l, depth)}
	}
	open := outside(s, "[")
	must(open > 0)
	inner, end := inBrackets(s[open+1:])
	t, e := types.Parse(s[:open] + end)
	must(e == api.OK)
	t.Args = longTypes(split(inner, ", "), depth)
	return t
}

func longTypes(l []string, depth int) []api.Type {
	var out []api.Type
	for _, s := range l {
		out = append(out, longType(s, depth+1))
	}
	return out
}

// inBrackets returns what stands ahead of the bracket that closes, and behind it.
func inBrackets(s string) (inner, rest string) {
	end := max(outside(s, ")"), outside(s, "]"))
	must(end >= 0)
	return s[:end], s[end+1:]
}

// group returns the kind of what stands in round brackets, and its parts.
func group(s string) (kind int, l []string) {
	for i, separator := range [...]string{" | ", " & ", ", ", " -> "} {
		if l := split(s, separator); len(l) > 1 {
			return api.TypeUnion + i, l
		}
	}
	return 0, nil
}

// split returns the parts of a text between separators that stand outside of quotes and brackets.
func split(s, separator string) []string {
	var l []string
	for {
		at := outside(s, separator)
		if at < 0 {
			return append(l, s)
		}
		l = append(l, s[:at])
		s = s[at+len(separator):]
	}
}

// outside returns where a text first stands outside of quotes and brackets, ahead of the bracket that closes; -1, if it does not.
func outside(s, what string) int {
	open, quoted := 0, false
	for i := 0; i < len(s); i++ {
		isHere := !quoted && open == 0 && strings.HasPrefix(s[i:], what)
		switch c := s[i]; {
		case isHere:
			return i
		case quoted && c == '\\':
			i++
		case c == '"':
			quoted = !quoted
		case quoted:
		case c == '(' || c == '[':
			open++
		case c == ')' || c == ']':
			if open--; open < 0 {
				return -1
			}
		}
	}
	return -1
}
