// Package scan goes through a text's runes by a cursor: what markup and stylesheets are cut into tokens with.
package scan

import (
	"strings"

	"casement/source"
)

// Follows tells if text, which has no rune of more than one byte and no 0, is next.
func Follows(c *source.Cursor[rune], text string) bool {
	for i := range len(text) {
		if r, _ := c.Peek(i); r != rune(text[i]) {
			return false
		}
	}
	return true
}

// Over goes over the next n runes.
func Over(c *source.Cursor[rune], n int) {
	for range n {
		c.Next()
	}
}

// Behind goes over all up to and with the next text, or to the end.
func Behind(c *source.Cursor[rune], text string) {
	for c.Left() > 0 && !Follows(c, text) {
		c.Next()
	}
	Over(c, len(text))
}

// Take reads all runes up to one that ends them, or to the end.
func Take(c *source.Cursor[rune], ends func(rune) bool) string {
	var text strings.Builder
	for {
		r, ok := c.Peek(0)
		if !ok || ends(r) {
			return text.String()
		}
		text.WriteRune(r)
		c.Next()
	}
}

// Blanks goes over blanks.
func Blanks(c *source.Cursor[rune]) {
	Take(c, func(r rune) bool { return !Blank(r) })
}

// Blank tells if r is one of the runes that stand between.
func Blank(r rune) bool {
	return r == '\t' || r == '\n' || r == '\f' || r == ' '
}

// Letter tells if r is a letter of either size.
func Letter(r rune) bool {
	r = SmallRune(r)
	return 'a' <= r && r <= 'z'
}

// SmallRune is r, a letter made small. No other rune is: a name is not to become another by what its runes are in some alphabet.
func SmallRune(r rune) rune {
	if 'A' <= r && r <= 'Z' {
		return r + 'a' - 'A'
	}
	return r
}

// Small is name, its letters made small.
func Small(name string) string { return strings.Map(SmallRune, name) }
