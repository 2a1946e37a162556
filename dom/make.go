package dom

import (
	"slices"

	"casement/api"
)

// Part is what a tree is made of: with a Name an element, without one a text.
type Part struct {
	Name, Text string
	Attrs      []api.Attr
	Kids       []Part
}

// Make is the tree of p.
func Make(p Part) (api.Tree, api.Errno) {
	var nodes []api.Node
	var put func(p Part, parent int) bool
	// Of one node too many all else is left: Kids may hold themselves, and then there is no end of them.
	put = func(p Part, parent int) bool {
		n := len(nodes)
		if n == api.MaxNodes {
			return false
		}
		nodes = append(nodes, nodeOf(p, parent))
		if nodes[n].Kind == api.Text {
			return true
		}
		for _, kid := range p.Kids {
			if !put(kid, n) {
				return false
			}
		}
		return true
	}
	if !put(p, -1) {
		return api.Tree{}, api.ErrMany
	}
	t := api.Tree{Nodes: linked(nodes)}
	if why := Right(t); why != api.OK {
		return api.Tree{}, why
	}
	// Not before: a list of any length may be handed in, and may be so in many parts at once.
	for n := range t.Nodes {
		t.Nodes[n].Attrs = copied(t.Nodes[n].Attrs)
	}
	return t, api.OK
}

// nodeOf is p's node, not linked yet, with p's own list of attributes.
func nodeOf(p Part, parent int) api.Node {
	if p.Name == "" {
		return api.Node{Kind: api.Text, Text: p.Text, Parent: parent}
	}
	return api.Node{Kind: api.Element, Name: p.Name, Attrs: p.Attrs, Parent: parent}
}

// linked is nodes with the links that their Parents give them.
func linked(nodes []api.Node) []api.Node {
	for n, l := range linksByParents(nodes) {
		nodes[n].First, nodes[n].Last, nodes[n].Prev, nodes[n].Next = l.first, l.last, l.prev, l.next
	}
	return nodes
}

// copied is new memory even where attrs is empty, which a clone of it is not.
func copied(attrs []api.Attr) []api.Attr { return append([]api.Attr(nil), attrs...) }

// Parts is the Part of which t is made. Of a tree that isn't as said it is the zero Part: its links may lead to one node from many sides, and there would be no bound to what was copied.
func Parts(t api.Tree) Part {
	if !asSaid(t.Nodes) {
		return Part{}
	}
	parts := make([]Part, len(t.Nodes))
	// From the last one on: a node's kids stand behind it, and so are whole when it asks for them.
	for n, node := range slices.Backward(t.Nodes) {
		parts[n] = Part{Name: node.Name, Text: node.Text, Attrs: copied(node.Attrs)}
		for _, kid := range Kids(t, n) {
			parts[n].Kids = append(parts[n].Kids, parts[kid])
		}
	}
	return parts[0]
}
