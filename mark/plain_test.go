package mark_test

import (
	"regexp"
	"strconv"
	"strings"

	"casement/api"
	"casement/mark"
)

const bad = "\ufffd"

// plain cuts as the promise says it, place by place, over numbers of places instead of a cursor.
type plain struct {
	l      []rune
	i      int
	tokens []mark.Token
}

func plainTokens(l []rune) []mark.Token {
	p := &plain{l: l}
	for p.i < len(p.l) {
		p.one()
	}
	return p.tokens
}

func isLetter(r rune) bool {
	return strings.ContainsRune("abcdefghijklmnopqrstuvwxyzABCDEFGHIJKLMNOPQRSTUVWXYZ", r)
}

func in(r rune, set string) bool { return strings.ContainsRune(set, r) }

func plainSmall(s string) string {
	for r := 'A'; r <= 'Z'; r++ {
		s = strings.ReplaceAll(s, string(r), string(r+32))
	}
	return s
}

// what names what begins at i: "" for chars.
func (p *plain) what(i int) string {
	rest := string(p.l[i:min(len(p.l), i+4)])
	runes := append([]rune(rest), 0, 0, 0)
	switch {
	case runes[0] != '<':
		return ""
	case isLetter(runes[1]):
		return "open"
	case runes[1] == '/' && isLetter(runes[2]):
		return "close"
	case rest == "<!--":
		return "comment"
	case in(runes[1], "!?/"):
		return "other"
	}
	return ""
}

func (p *plain) one() {
	switch p.what(p.i) {
	case "open":
		p.open()
	case "close":
		p.i += 2
		if t, ok := p.tag(); ok {
			p.tokens = append(p.tokens, mark.Token{Kind: mark.Close, Name: t.Name})
		}
	case "comment":
		p.behind(p.i+4, "-->")
	case "other":
		p.behind(p.i, ">")
	default:
		from := p.i
		for p.i < len(p.l) && p.what(p.i) == "" {
			p.i++
		}
		p.tokens = append(p.tokens, mark.Token{Kind: mark.Chars, Text: plainUnescape(string(p.l[from:p.i]))})
	}
}

// behind goes behind the next end at from or later, or to the end.
func (p *plain) behind(from int, end string) {
	for i := from; i+len(end) <= len(p.l); i++ {
		if string(p.l[i:i+len(end)]) == end {
			p.i = i + len(end)
			return
		}
	}
	p.i = len(p.l)
}

func (p *plain) upTo(set string) string {
	from := p.i
	for p.i < len(p.l) && !in(p.l[p.i], set) {
		p.i++
	}
	return string(p.l[from:p.i])
}

func (p *plain) over(set string) {
	for p.i < len(p.l) && in(p.l[p.i], set) {
		p.i++
	}
}

func (p *plain) open() {
	p.i++
	t, ok := p.tag()
	if !ok {
		return
	}
	p.tokens = append(p.tokens, t)
	if t.Name != "style" && t.Name != "script" {
		return
	}
	from, end := p.i, regexp.MustCompile(`^</`+t.Name+`([\t\n\f />]|$)`)
	for p.i < len(p.l) && !end.MatchString(plainSmall(string(p.l[p.i:min(len(p.l), p.i+12)]))) {
		p.i++
	}
	if from < p.i {
		p.tokens = append(p.tokens, mark.Token{Kind: mark.Chars, Text: string(p.l[from:p.i])})
	}
}

// tag reads from the name on. A `/` that ends a value stands at the place where that value ends.
func (p *plain) tag() (mark.Token, bool) {
	t := mark.Token{Kind: mark.Open, Name: plainSmall(p.upTo("\t\n\f />"))}
	for valueEnds := -1; p.i < len(p.l); {
		p.over("\t\n\f /")
		if p.i == len(p.l) {
			break
		}
		if p.l[p.i] == '>' {
			t.Closed = p.l[p.i-1] == '/' && p.i != valueEnds
			p.i++
			return t, true
		}
		var a api.Attr
		a.Name = string(p.l[p.i])
		p.i++
		a.Name = plainSmall(a.Name + p.upTo("\t\n\f />="))
		p.over("\t\n\f ")
		if p.i < len(p.l) && p.l[p.i] == '=' {
			p.i++
			p.over("\t\n\f ")
			a.Value = plainUnescape(p.value())
			valueEnds = p.i
		}
		first := true
		for _, b := range t.Attrs {
			first = first && b.Name != a.Name
		}
		if first && len(t.Attrs) < 64 {
			t.Attrs = append(t.Attrs, a)
		}
	}
	return mark.Token{}, false
}

func (p *plain) value() string {
	if p.i < len(p.l) && in(p.l[p.i], `'"`) {
		quote := string(p.l[p.i])
		p.i++
		v := p.upTo(quote)
		p.i = min(p.i+1, len(p.l))
		return v
	}
	return p.upTo("\t\n\f >")
}

var escapes = regexp.MustCompile(`&(?:(?:amp|lt|gt|quot|apos|nbsp)|#[0-9]{1,8}|#[xX][0-9a-fA-F]{1,8});`)

func plainUnescape(s string) string {
	return escapes.ReplaceAllStringFunc(s, func(e string) string {
		e = strings.Trim(e, "&;")
		if !strings.HasPrefix(e, "#") {
			return map[string]string{"amp": "&", "lt": "<", "gt": ">", "quot": `"`, "apos": "'", "nbsp": "\u00a0"}[e]
		}
		base := 10
		if e = e[1:]; in(rune(e[0]), "xX") {
			base, e = 16, e[1:]
		}
		n, err := strconv.ParseInt(e, base, 64)
		if err != nil || n == 0 || n > 0x10ffff || 0xd800 <= n && n <= 0xdfff {
			return bad
		}
		return string(rune(n))
	})
}
