package tree

import (
	"slices"

	"casement/api"
	"casement/dom"
)

// builder is a tree that is being built. Its nodes stand in the order in which they came, so that each is behind its parent; the order of the document is that of the kids alone, since what goes ahead of a table comes later than the table.
type builder struct {
	nodes []node
	row   []int // the open elements: the root first, the current one last
}

// node is an element, or a text, which has no name. The root's parent is never asked for.
type node struct {
	name   string
	attrs  []api.Attr
	text   []byte
	parent int
	kids   []int
}

// spot is where something is put: into a node, at that place among its kids.
type spot struct{ parent, at int }

// none is the place in the row of what isn't open. The root is there, which no name means.
const none = 0

// begun is the root alone.
func begun() *builder {
	return &builder{nodes: []node{{name: "root"}}, row: []int{0}}
}

func (b *builder) current() int { return b.row[len(b.row)-1] }

func (b *builder) currentName() string { return b.nodes[b.current()].name }

// last is the place in the row of the last open element that has one of names; none without one.
func (b *builder) last(names ...string) int {
	for i := len(b.row) - 1; i > none; i-- {
		if slices.Contains(names, b.nodes[b.row[i]].name) {
			return i
		}
	}
	return none
}

// closeBehind closes the last open element of that name, if it is open behind the last one that has one of bounds.
func (b *builder) closeBehind(name string, bounds ...string) {
	if i := b.last(name); i > b.last(bounds...) {
		b.cut(i)
	}
}

// cut takes the element at a place in the row, and all behind it, off the row.
func (b *builder) cut(i int) { b.row = b.row[:i] }

func (b *builder) endOfCurrent() spot {
	n := b.current()
	return spot{parent: n, at: len(b.nodes[n].kids)}
}

// aheadOfTable is the spot right ahead of the last open table; without one the current element takes what comes.
func (b *builder) aheadOfTable() spot {
	i := b.last("table")
	if i == none {
		return b.endOfCurrent()
	}
	table := b.row[i]
	parent := b.nodes[table].parent
	return spot{parent: parent, at: slices.Index(b.nodes[parent].kids, table)}
}

// putText lets text join the text ahead of the spot; without one it becomes a new one.
func (b *builder) putText(s spot, text string) {
	if s.at > 0 {
		ahead := &b.nodes[b.nodes[s.parent].kids[s.at-1]]
		if ahead.name == "" {
			ahead.text = append(ahead.text, text...)
			return
		}
	}
	b.put(s, node{text: []byte(text)})
}

func (b *builder) putElement(s spot, name string, attrs []api.Attr) int {
	return b.put(s, node{name: name, attrs: attrs})
}

func (b *builder) put(s spot, n node) int {
	number := len(b.nodes)
	n.parent = s.parent
	b.nodes = append(b.nodes, n)
	parent := &b.nodes[s.parent]
	parent.kids = slices.Insert(parent.kids, s.at, number)
	return number
}

// part is the root and all that is in it.
func (b *builder) part() dom.Part {
	parts := make([]dom.Part, len(b.nodes))
	// From the last one on: kids came behind their parent, and so are whole when it asks for them.
	for i, n := range slices.Backward(b.nodes) {
		parts[i] = dom.Part{Name: n.name, Text: string(n.text), Attrs: n.attrs}
		for _, kid := range n.kids {
			parts[i].Kids = append(parts[i].Kids, parts[kid])
		}
	}
	return parts[0]
}
