package write_test

import (
	"slices"
	"strings"
	"unicode/utf8"

	"casement/api"
	"casement/dom"
)

// Plain ways to what the package answers: over parts, which have no links, and from the words of the chapter alone.

var escapes = []struct{ stands, is string }{
	{"&", "&amp;"}, {"<", "&lt;"}, {">", "&gt;"}, {"\u00a0", "&nbsp;"}, {"\r", "&#13;"},
}

func plainEscape(s string, quoted bool) string {
	var out strings.Builder
	for s != "" {
		stands, is := s[:1], s[:1]
		for _, e := range escapes {
			if strings.HasPrefix(s, e.stands) {
				stands, is = e.stands, e.is
			}
		}
		if quoted && stands == `"` {
			is = "&quot;"
		}
		out.WriteString(is)
		s = s[len(stands):]
	}
	return out.String()
}

var (
	voids     = []string{"br", "hr", "img", "input", "link", "meta"}
	known     = strings.Fields("a b br div em h1 hr i img li p span table td tr u ul")
	notBelowP = strings.Fields("div h1 li p table ul")
)

// plainKids is what is in p, written.
func plainKids(p dom.Part) string {
	out := ""
	for _, kid := range p.Kids {
		switch {
		case kid.Name != "":
			out += plainElement(kid)
		case p.Name == "style" || p.Name == "script":
			out += kid.Text
		default:
			out += plainEscape(kid.Text, false)
		}
	}
	return out
}

func plainElement(p dom.Part) string {
	out := "<" + p.Name
	for _, a := range p.Attrs {
		out += ` ` + a.Name + `="` + plainEscape(a.Value, true) + `"`
	}
	out += ">"
	if slices.Contains(voids, p.Name) {
		return out
	}
	return out + plainKids(p) + "</" + p.Name + ">"
}

// plainCanonical asks of the part of a right tree.
func plainCanonical(p dom.Part) bool {
	return p.Name == "root" && len(p.Attrs) == 0 && plainBelow(p, false)
}

// plainBelow tells if all that is below an element is as it must be.
func plainBelow(p dom.Part, inP bool) bool {
	inP = inP || p.Name == "p"
	if slices.Contains(voids, p.Name) && len(p.Kids) > 0 {
		return false
	}
	for i, kid := range p.Kids {
		if !plainPlace(p.Name, kid.Name) {
			return false
		}
		if kid.Name == "" {
			if i > 0 && p.Kids[i-1].Name == "" || !plainText(kid.Text) {
				return false
			}
			continue
		}
		if !slices.Contains(known, kid.Name) || !plainAttrs(kid.Attrs) || inP && slices.Contains(notBelowP, kid.Name) || !plainBelow(kid, inP) {
			return false
		}
	}
	return true
}

var onlyKid = map[string]string{"table": "tr", "tr": "td", "ul": "li"}

func plainPlace(parent, kid string) bool {
	for above, only := range onlyKid {
		if (parent == above) != (kid == only) {
			return false
		}
	}
	return true
}

func plainText(s string) bool { return utf8.ValidString(s) && strings.IndexByte(s, 0) < 0 }

func plainAttrs(attrs []api.Attr) bool {
	const letters = "abcdefghijklmnopqrstuvwxyz"
	for _, a := range attrs {
		if strings.Trim(a.Name[:1], letters) != "" || strings.Trim(a.Name, letters+"0123456789-") != "" || !plainText(a.Value) {
			return false
		}
	}
	return true
}
