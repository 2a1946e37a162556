package csstok

import (
	"casement/api"
	"casement/fixed"
	"casement/scan"
	"casement/source"
)

// How many millionths one of the 64 parts of a pixel is: a whole number of them, so six digits behind the point tell any number of parts, and decide where a longer number is cut off.
const (
	million         = 1000000
	pointDigits     = 6
	millionthsOfOne = million / api.Px
)

// beginsNumber tells if a number begins where c stands.
func beginsNumber(c *source.Cursor[rune]) bool {
	k := 0
	if r := peek(c, k); r == '+' || r == '-' {
		k++
	}
	if peek(c, k) == '.' {
		k++
	}
	return isDigit(peek(c, k))
}

// number reads the number that begins where c stands, and its unit.
func number(c *source.Cursor[rune]) Token {
	token := Token{Kind: Number, Whole: true}
	minus := scan.Follows(c, "-")
	if minus || scan.Follows(c, "+") {
		c.Next()
	}
	token.N = fixed.Times(pixels(digits(c)), api.Px)
	if peek(c, 0) == '.' && isDigit(peek(c, 1)) {
		c.Next()
		token.Whole = false
		token.N = fixed.Add(token.N, parts(digits(c)))
	}
	if minus {
		token.N = -token.N
	}
	token.Unit = unit(c)
	return token
}

func digits(c *source.Cursor[rune]) string {
	return scan.Take(c, func(r rune) bool { return !isDigit(r) })
}

// unit reads the unit that stands directly behind a number, if there is one.
func unit(c *source.Cursor[rune]) string {
	if scan.Follows(c, "%") {
		c.Next()
		return "%"
	}
	if beginsName(c, 0) {
		return smallName(c)
	}
	return ""
}

// pixels is the number of those digits, however many there are. One past Rail stays there, and so do its units.
func pixels(digits string) int64 {
	n := int64(0)
	for _, d := range digits {
		n = fixed.Add(fixed.Times(n, 10), int64(d-'0'))
	}
	return n
}

// parts is how many whole parts of a pixel those digits behind a point are.
func parts(digits string) int64 {
	millionths := int64(0)
	for i := range pointDigits {
		millionths *= 10
		if i < len(digits) {
			millionths += int64(digits[i] - '0')
		}
	}
	return millionths / millionthsOfOne
}

func isDigit(r rune) bool { return '0' <= r && r <= '9' }
