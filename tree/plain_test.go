package tree_test

import (
	"slices"

	"casement/api"
	"casement/dom"
	"casement/mark"
)

// The chapter once more, by plain ways: nodes that point at one another, and a row of them; where one looks behind something, what is behind it is written out.

type plainNode struct {
	part   dom.Part
	parent *plainNode
	kids   []*plainNode
}

type plainTree struct {
	root *plainNode
	row  []*plainNode
}

func plainPart(l []mark.Token) dom.Part {
	root := &plainNode{part: element("root")}
	x := &plainTree{root: root, row: []*plainNode{root}}
	for _, token := range l {
		switch token.Kind {
		case mark.Chars:
			x.chars(token.Text)
		case mark.Open:
			x.open(token.Name, token.Attrs)
		case mark.Close:
			x.shut(token.Name)
		}
	}
	return root.whole()
}

func (n *plainNode) whole() dom.Part {
	p := n.part
	for _, kid := range n.kids {
		p.Kids = append(p.Kids, kid.whole())
	}
	return p
}

func (x *plainTree) current() *plainNode { return x.row[len(x.row)-1] }

func (x *plainTree) currentIs(names ...string) bool {
	return len(x.row) > 1 && slices.Contains(names, x.current().part.Name)
}

// behind is what is open behind the last open one of names, or behind the root.
func (x *plainTree) behind(names ...string) []*plainNode {
	var l []*plainNode
	for _, n := range x.row[1:] {
		l = append(l, n)
		if slices.Contains(names, n.part.Name) {
			l = nil
		}
	}
	return l
}

func named(l []*plainNode, name string) *plainNode {
	var found *plainNode
	for _, n := range l {
		if n.part.Name == name {
			found = n
		}
	}
	return found
}

// close takes n and all behind it off the row, if there is an n.
func (x *plainTree) close(n *plainNode) []*plainNode {
	i := slices.Index(x.row, n)
	if i < 0 {
		return nil
	}
	off := slices.Clone(x.row[i:])
	x.row = slices.Clone(x.row[:i])
	return off
}

func (x *plainTree) chars(text string) {
	kid := &plainNode{part: dom.Part{Text: text}}
	if !x.currentIs("table", "tr") || x.table() == nil {
		x.putLast(kid)
		return
	}
	for _, r := range text {
		if r != 9 && r != 10 && r != 12 && r != 32 {
			x.putAhead(kid)
			return
		}
	}
}

func (x *plainTree) table() *plainNode { return named(x.row[1:], "table") }

func (x *plainTree) putLast(kid *plainNode) {
	kid.parent = x.current()
	kid.parent.kids = joined(append(kid.parent.kids, kid))
}

func (x *plainTree) putAhead(kid *plainNode) {
	table := x.table()
	if table == nil {
		x.putLast(kid)
		return
	}
	kid.parent = table.parent
	var kids []*plainNode
	for _, k := range table.parent.kids {
		if k == table {
			kids = append(kids, kid)
		}
		kids = append(kids, k)
	}
	kid.parent.kids = joined(kids)
}

// joined lets texts that stand side by side be one.
func joined(l []*plainNode) []*plainNode {
	var out []*plainNode
	for _, n := range l {
		if len(out) > 0 && n.part.Name == "" && out[len(out)-1].part.Name == "" {
			out[len(out)-1].part.Text += n.part.Text
			continue
		}
		out = append(out, n)
	}
	return out
}

var (
	blocks = []string{"div", "p", "ul", "li", "h1", "table"}
	marks  = []string{"a", "b", "em", "i", "u"}
	voids  = []string{"br", "hr", "img", "input", "link", "meta"}
)

func (x *plainTree) open(name string, attrs []api.Attr) {
	if slices.Contains(blocks, name) {
		x.close(named(x.behind("td"), "p"))
	}
	if name == "li" {
		x.close(named(x.behind("ul", "td"), "li"))
	}
	if name == "tr" {
		x.close(named(x.behind("table"), "tr"))
	}
	if name == "td" {
		x.close(named(x.behind("tr"), "td"))
		if x.currentIs("table") {
			x.open("tr", nil)
		}
	}
	x.rule3(name, attrs)
}

func (x *plainTree) rule3(name string, attrs []api.Attr) {
	n := &plainNode{part: dom.Part{Name: name, Attrs: attrs}}
	switch {
	case x.currentIs("table") && name != "tr" && name != "td", x.currentIs("tr") && name != "td":
		x.putAhead(n)
	default:
		x.putLast(n)
	}
	if !slices.Contains(voids, name) {
		x.row = append(x.row, n)
	}
}

func (x *plainTree) shut(name string) {
	if slices.Contains(voids, name) || name == "root" {
		return
	}
	within := x.behind("td")
	if name == "td" || name == "tr" || name == "table" {
		within = x.behind()
	}
	n := named(within, name)
	if n == nil && name == "p" {
		x.open("p", nil)
		x.close(x.current())
	}
	if n == nil {
		return
	}
	off := x.close(n)[1:]
	if !slices.Contains(marks, name) {
		return
	}
	var again []*plainNode
	for _, m := range off {
		if slices.Contains(marks, m.part.Name) {
			again = append(again, m)
		}
	}
	for len(again) > 8 {
		again = again[1:]
	}
	for _, m := range again {
		x.rule3(m.part.Name, m.part.Attrs)
	}
}
