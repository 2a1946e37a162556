package mark

import (
	"strings"
	"unicode/utf8"
)

// mostDigits is how many digits an escape by number may have.
const mostDigits = 8

// named are the escapes that have a name, and what they mean.
var named = [...]struct{ escape, means string }{
	{"&amp;", "&"},
	{"&lt;", "<"},
	{"&gt;", ">"},
	{"&quot;", "\""},
	{"&apos;", "'"},
	{"&nbsp;", "\u00a0"},
}

// Unescape is s, its escapes replaced by what they mean. It goes by bytes: what is no escape stays as it stands, even if it is no UTF-8.
func Unescape(s string) string {
	var text strings.Builder
	for {
		before, _, found := strings.Cut(s, "&")
		text.WriteString(before)
		if !found {
			return text.String()
		}
		s = s[len(before):]
		means, size := escape(s)
		if size == 0 {
			means, size = "&", 1
		}
		text.WriteString(means)
		s = s[size:]
	}
}

// escape is what the escape means with which s, which begins with `&`, begins, and how many bytes it has: 0, if there is none.
func escape(s string) (string, int) {
	for _, n := range named {
		if strings.HasPrefix(s, n.escape) {
			return n.means, len(n.escape)
		}
	}
	if strings.HasPrefix(s, "&#x") || strings.HasPrefix(s, "&#X") {
		return numbered(s, len("&#x"), 16)
	}
	if strings.HasPrefix(s, "&#") {
		return numbered(s, len("&#"), 10)
	}
	return "", 0
}

// numbered is escape for one by number, whose digits of that base begin at from.
func numbered(s string, from int, base int64) (string, int) {
	number, at := int64(0), from
	for at < len(s) && at-from < mostDigits && digit(s[at]) < base {
		number = number*base + digit(s[at])
		at++
	}
	if at == from || at == len(s) || s[at] != ';' {
		return "", 0
	}
	return string(meant(number)), at + len(";")
}

// digit is what the digit b is worth; of one that is none, more than any base.
func digit(b byte) int64 {
	switch {
	case '0' <= b && b <= '9':
		return int64(b - '0')
	case 'a' <= b && b <= 'f':
		return int64(b-'a') + 10
	case 'A' <= b && b <= 'F':
		return int64(b-'A') + 10
	}
	return 16
}

// meant is the rune of that number; of one that no text has, U+FFFD.
func meant(number int64) rune {
	half := 0xd800 <= number && number <= 0xdfff
	if number == 0 || number > utf8.MaxRune || half {
		return utf8.RuneError
	}
	return rune(number)
}
