package derive

import (
	"strconv"
	"strings"

	"hackamore/api"
	"hackamore/check"
	"hackamore/types"
)

// maxType is the greatest length of the text of a type that can be read.
const maxType = 20000

// Text returns the text of a certificate.
func Text(c check.Certificate) (string, api.Errno) {
	if e := checkTexts(c); e != api.OK {
		return "", e
	}
	var w strings.Builder
	for _, b := range c.Bodies {
		w.WriteString("body " + strconv.Itoa(b.Entity) + " " + strconv.Itoa(b.Method) + "\n")
		for _, t := range b.Types {
			text := typeText(t)
			if w.WriteString(text + "\n"); len(text) > maxType || w.Len() > MaxText {
				return "", api.ErrSize
			}
		}
		if w.Len() > MaxText {
			return "", api.ErrSize
		}
	}
	return w.String(), api.OK
}

// checkTexts returns the first error of the numbers and the types of a certificate.
func checkTexts(c check.Certificate) api.Errno {
	for _, b := range c.Bodies {
		if b.Entity < 0 || b.Method < 0 {
			return api.ErrRange
		}
	}
	for _, b := range c.Bodies {
		for _, t := range b.Types {
			if e := checkClaimed(t); e != api.OK {
				return e
			}
		}
	}
	return api.OK
}

func typeText(t api.Type) string {
	if isZero(t) {
		return "-"
	}
	text, _ := types.Text(t)
	return text
}

// Parse returns the certificate with a text.
func Parse(s string) (check.Certificate, api.Errno) {
	if len(s) > MaxText {
		return check.Certificate{}, api.ErrSize
	}
	var c check.Certificate
	for line := range strings.Lines(s) {
		if !readLine(&c, strings.TrimSuffix(line, "\n")) {
			return check.Certificate{}, api.ErrForm
		}
	}
	// Numbers may be written in several ways, and the last line feed may be missing: but one text is that of the certificate.
	if text, e := Text(c); e != api.OK || text != s {
		return check.Certificate{}, api.ErrForm
	}
	return c, api.OK
}

// readLine adds what a line has to a certificate.
func readLine(c *check.Certificate, line string) bool {
	if b, ok := readBody(line); ok {
		c.Bodies = append(c.Bodies, b)
		return true
	}
	n := len(c.Bodies)
	if n == 0 {
		return false
	}
	var t api.Type
	if line != "-" {
		var e api.Errno
		if t, e = types.Parse(line); e != api.OK {
			return false
		}
	}
	c.Bodies[n-1].Types = append(c.Bodies[n-1].Types, t)
	return true
}

// readBody reads the line with which a body begins. (No type has such a text: behind the name there would be a capability.)
func readBody(line string) (check.Body, bool) {
	words := strings.Split(line, " ")
	if len(words) != 3 || words[0] != "body" {
		return check.Body{}, false
	}
	entity, wrong := strconv.Atoi(words[1])
	method, alsoWrong := strconv.Atoi(words[2])
	return check.Body{Entity: entity, Method: method}, wrong == nil && alsoWrong == nil
}
