package csstok_test

import (
	"fmt"
	"math/big"
	"regexp"
	"strings"

	"casement/api"
	"casement/csstok"
)

// The chapter once more, by patterns over texts and by exact numbers.

const (
	runeOfName  = `[a-zA-Z0-9_\x{80}-\x{10ffff}-]`
	patternName = `-?[a-zA-Z_\x{80}-\x{10ffff}]` + runeOfName + `*`
)

var (
	plainComment = regexp.MustCompile(`^/\*(?s:.*?)(?:\*/|\z)`)
	plainBlank   = regexp.MustCompile(`^[\t\n\f ]+`)
	plainIdent   = regexp.MustCompile(`^` + patternName)
	plainHash    = regexp.MustCompile(`^#(` + runeOfName + `+)`)
	plainAt      = regexp.MustCompile(`^@(` + patternName + `)`)
	plainNumber  = regexp.MustCompile(`^([+-]?(?:[0-9]+(\.[0-9]+)?|(\.[0-9]+)))(` + patternName + `|%)?`)
	plainString  = regexp.MustCompile(`^(?:"((?:\\(?s:.)|[^"\\\n])*(?:\\\z)?)"?|'((?:\\(?s:.)|[^'\\\n])*(?:\\\z)?)'?)`)
	plainEscape  = regexp.MustCompile(`\\((?s:.))`)
)

func plainSmall(s string) string {
	for r := 'A'; r <= 'Z'; r++ {
		s = strings.ReplaceAll(s, string(r), string(r+32))
	}
	return s
}

// plainUnits is the number in 64ths, exactly reckoned and then cut off.
func plainUnits(s string) int64 {
	value, ok := new(big.Rat).SetString(s)
	if !ok {
		panic(s)
	}
	value.Mul(value, big.NewRat(64, 1))
	n := new(big.Int).Quo(value.Num(), value.Denom())
	if rail := big.NewInt(api.Rail); n.CmpAbs(rail) > 0 {
		return api.Rail * int64(n.Sign())
	}
	return n.Int64()
}

func plainTokens(s string) []csstok.Token {
	var l []csstok.Token
	for s != "" {
		if m := plainComment.FindString(s); m != "" {
			s = s[len(m):]
			continue
		}
		token, size := plainToken(s)
		s = s[size:]
		if token.Kind != csstok.Blank || len(l) == 0 || l[len(l)-1].Kind != csstok.Blank {
			l = append(l, token)
		}
	}
	return l
}

// plainToken is the token with which s begins, and how many bytes it has.
func plainToken(s string) (csstok.Token, int) {
	if m := plainBlank.FindString(s); m != "" {
		return blank(), len(m)
	}
	if m := plainIdent.FindString(s); m != "" {
		return ident(plainSmall(m)), len(m)
	}
	if m := plainHash.FindStringSubmatch(s); m != nil {
		return hash(m[1]), len(m[0])
	}
	if m := plainAt.FindStringSubmatch(s); m != nil {
		return at(plainSmall(m[1])), len(m[0])
	}
	if m := plainNumber.FindStringSubmatch(s); m != nil {
		token := number(plainUnits(m[1]), plainSmall(m[4]))
		token.Whole = m[2] == "" && m[3] == ""
		return token, len(m[0])
	}
	if m := plainString.FindStringSubmatch(s); m != nil {
		return quoted(plainEscape.ReplaceAllString(m[1]+m[2], "$1")), len(m[0])
	}
	r := []rune(s)[0]
	return sign(string(r)), len(string(r))
}

func plainText(l []csstok.Token) string {
	s := ""
	for i, token := range withoutBlanks(l) {
		if i > 0 {
			s += " "
		}
		s += plainWord(token)
	}
	return s
}

func plainWord(token csstok.Token) string {
	switch token.Kind {
	case csstok.Hash:
		return "#" + token.Text
	case csstok.At:
		return "@" + token.Text
	case csstok.Number:
		n, minus := new(big.Int).Abs(big.NewInt(token.N)), ""
		if token.N < 0 {
			minus = "-"
		}
		pixels, parts := new(big.Int).DivMod(n, big.NewInt(64), new(big.Int))
		if token.Whole {
			return minus + pixels.String() + token.Unit
		}
		return fmt.Sprintf("%s%d.%06d%s", minus, pixels, 15625*parts.Int64(), token.Unit)
	case csstok.String:
		return `"` + regexp.MustCompile(`["\\\n]`).ReplaceAllString(token.Text, `\$0`) + `"`
	}
	return token.Text
}

func withoutBlanks(l []csstok.Token) []csstok.Token {
	var rest []csstok.Token
	for _, token := range l {
		if token.Kind != csstok.Blank {
			rest = append(rest, token)
		}
	}
	return rest
}
