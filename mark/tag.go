package mark

import (
	"casement/api"
	"casement/scan"
	"casement/source"
)

// readTag reads a tag from its name on up to and with its `>`. Its states are labels. False, if the text ends ahead of the `>`: then c stands at the end.
func readTag(c *source.Cursor[rune]) (Token, bool) {
	tag := Token{Kind: Open, Name: scan.Small(scan.Take(c, endsTagName))}
	var attr api.Attr
	var r rune
	var more, slash bool // slash: the rune that was just gone over is a `/` of no value

between:
	r, more = c.Peek(0)
	switch {
	case !more:
		return Token{}, false
	case r == '>':
		goto end
	case r != '/' && !scan.Blank(r):
		goto name
	}
	slash = r == '/'
	c.Next()
	goto between

name:
	slash = false
	attr = api.Attr{Name: attrName(c)}
	scan.Blanks(c)
	if scan.Follows(c, "=") {
		goto value
	}
	goto keep

value:
	c.Next()
	scan.Blanks(c)
	attr.Value = Unescape(attrValue(c))
	goto keep

keep:
	if len(tag.Attrs) < api.MaxAttrs && !has(tag.Attrs, attr.Name) {
		tag.Attrs = append(tag.Attrs, attr)
	}
	goto between

end:
	c.Next()
	tag.Closed = slash
	return tag, true
}

// attrName reads an attribute's name. Its first rune is of it even if it is a `=`.
func attrName(c *source.Cursor[rune]) string {
	first, _ := c.Next()
	return scan.Small(string(first) + scan.Take(c, endsAttrName))
}

// attrValue reads an attribute's value as it stands, and goes over the quotes around it. A quote that does not end takes all the rest, so there is no tag then.
func attrValue(c *source.Cursor[rune]) string {
	quote, _ := c.Peek(0)
	if quote != '"' && quote != '\'' {
		return scan.Take(c, endsPlainValue)
	}
	c.Next()
	value := scan.Take(c, func(r rune) bool { return r == quote })
	c.Next()
	return value
}

// has tells if one of attrs has that name.
func has(attrs []api.Attr, name string) bool {
	for _, a := range attrs {
		if a.Name == name {
			return true
		}
	}
	return false
}

func endsTagName(r rune) bool    { return scan.Blank(r) || r == '/' || r == '>' }
func endsAttrName(r rune) bool   { return endsTagName(r) || r == '=' }
func endsPlainValue(r rune) bool { return scan.Blank(r) || r == '>' }
