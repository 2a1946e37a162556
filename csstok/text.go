package csstok

import (
	"strconv"
	"strings"

	"casement/api"
)

// Text writes l so that it is cut into the same tokens again, Blanks left out.
func Text(l []Token) string {
	var words []string
	for _, token := range l {
		if token.Kind != Blank {
			words = append(words, word(token))
		}
	}
	return strings.Join(words, " ")
}

// word writes one token that is no Blank. One of another kind than there are has nothing to write.
func word(token Token) string {
	switch token.Kind {
	case Ident, Sign:
		return token.Text
	case Hash:
		return "#" + token.Text
	case At:
		return "@" + token.Text
	case Number:
		return numberWord(token)
	case String:
		return stringWord(token.Text)
	}
	return ""
}

func numberWord(token Token) string {
	// Without a sign the least of all numbers has its place, too.
	sign, size := "", uint64(token.N)
	if token.N < 0 {
		sign, size = "-", -size
	}
	text := sign + strconv.FormatUint(size/api.Px, 10)
	if !token.Whole {
		// The million ahead keeps the zeros behind it, and gives its place to the point.
		behind := strconv.FormatUint(million+size%api.Px*millionthsOfOne, 10)
		text += "." + behind[1:]
	}
	return text + token.Unit
}

// stringWord writes text with a `\` ahead of what would end it or not stand for itself.
func stringWord(text string) string {
	var word strings.Builder
	word.WriteByte('"')
	for i := range len(text) {
		if text[i] == '"' || text[i] == '\\' || text[i] == '\n' {
			word.WriteByte('\\')
		}
		word.WriteByte(text[i])
	}
	word.WriteByte('"')
	return word.String()
}
