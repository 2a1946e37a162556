package write

import (
	"slices"
	"strings"
	"unicode/utf8"

	"casement/api"
	"casement/dom"
	"casement/tree"
)

// Canonical tells if t is of those trees whose markup is parsed to themselves.
func Canonical(t api.Tree) bool {
	if dom.Right(t) != api.OK || t.Nodes[0].Name != "root" || len(t.Nodes[0].Attrs) > 0 {
		return false
	}
	inParagraph := make([]bool, len(t.Nodes))
	for n := 1; n < len(t.Nodes); n++ {
		node, parent := t.Nodes[n], t.Nodes[t.Nodes[n].Parent]
		// A parent stands ahead of its kids: what lies above it is known by now.
		inParagraph[n] = parent.Name == "p" || inParagraph[node.Parent]
		if !comesBack(node) || !mayHold(parent.Name, node.Name) || inParagraph[n] && endsParagraph(node.Name) {
			return false
		}
		if node.Kind == api.Text && node.Next >= 0 && t.Nodes[node.Next].Kind == api.Text {
			return false
		}
	}
	return true
}

// comesBack tells if a node's own name, text and attributes are read as they are written.
func comesBack(n api.Node) bool {
	if n.Kind == api.Text {
		return clean(n.Text)
	}
	return isKnown(n.Name) && !slices.ContainsFunc(n.Attrs, func(a api.Attr) bool {
		return !plainName(a.Name) || !clean(a.Value)
	})
}

func isKnown(name string) bool {
	switch name {
	case "a", "b", "br", "div", "em", "h1", "hr", "i", "img", "li", "p", "span", "table", "td", "tr", "u", "ul":
		return true
	}
	return false
}

// plainName tells if the name of an attribute, which is not empty, is read back whatever stands around it.
func plainName(name string) bool {
	for i, r := range name {
		small := 'a' <= r && r <= 'z'
		behind := r == '-' || '0' <= r && r <= '9'
		if !small && (i == 0 || !behind) {
			return false
		}
	}
	return true
}

// clean tells if s has nothing in it that reading makes U+FFFD.
func clean(s string) bool { return utf8.ValidString(s) && !strings.Contains(s, "\x00") }

// mayHold tells if a node of that name, which is a text if it has none, may be a kid in an element of the name parent.
func mayHold(parent, name string) bool {
	switch name {
	case "tr":
		return parent == "table"
	case "td":
		return parent == "tr"
	case "li":
		return parent == "ul"
	}
	return parent != "table" && parent != "tr" && parent != "ul" && !tree.Void(parent)
}

// endsParagraph tells if an open tag of that name would close an open p.
func endsParagraph(name string) bool {
	switch name {
	case "div", "h1", "li", "p", "table", "ul":
		return true
	}
	return false
}
