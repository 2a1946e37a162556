package dom

import "casement/api"

// Right tells what a tree is refused for.
func Right(t api.Tree) api.Errno {
	switch {
	case len(t.Nodes) > api.MaxNodes:
		return api.ErrMany
	case !asSaid(t.Nodes):
		return api.ErrTree
	case tooDeep(t):
		return api.ErrDeep
	}
	return api.OK
}

// asSaid tells if nodes are a tree, however many and deep they are.
func asSaid(nodes []api.Node) bool {
	if len(nodes) == 0 || nodes[0].Kind != api.Element || !inOrder(nodes) {
		return false
	}
	want := linksByParents(nodes)
	for n, node := range nodes {
		if linksOf(node) != want[n] || !wellMade(node) {
			return false
		}
	}
	return true
}

// inOrder tells if nodes, of which there is one at least, have one root and stand in document order by their Parents.
func inOrder(nodes []api.Node) bool {
	if nodes[0].Parent != -1 {
		return false
	}
	for n := 1; n < len(nodes); n++ {
		parent := nodes[n].Parent
		// A node stands below the one right ahead of it, or below one above that: below another one it would stand apart from what is below that, too.
		open := n - 1
		for open > parent && open > 0 {
			open = nodes[open].Parent
		}
		if open != parent {
			return false
		}
	}
	return true
}

// links is where a node's kids begin and end and who stands beside it.
type links struct{ first, last, prev, next int }

func linksOf(n api.Node) links { return links{n.First, n.Last, n.Prev, n.Next} }

// linksByParents is the links of nodes that are in order: their Parents leave no choice of them.
func linksByParents(nodes []api.Node) []links {
	l := make([]links, len(nodes))
	for n := range nodes {
		l[n] = links{-1, -1, -1, -1}
		if n > 0 {
			addKid(l, nodes[n].Parent, n)
		}
	}
	return l
}

// addKid puts n behind the other kids of parent.
func addKid(l []links, parent, n int) {
	last := l[parent].last
	l[n].prev, l[parent].last = last, n
	if last < 0 {
		l[parent].first = n
	} else {
		l[last].next = n
	}
}

// wellMade tells if a node, whose links are right, has what its kind has and nothing else.
func wellMade(n api.Node) bool {
	switch n.Kind {
	case api.Element:
		return n.Name != "" && n.Text == "" && rightAttrs(n.Attrs)
	case api.Text:
		return n.Text != "" && n.Name == "" && len(n.Attrs) == 0 && n.First < 0
	}
	return false
}

func rightAttrs(attrs []api.Attr) bool {
	if len(attrs) > api.MaxAttrs {
		return false
	}
	for i, a := range attrs {
		if a.Name == "" || find(attrs[:i], a.Name) >= 0 {
			return false
		}
	}
	return true
}

// tooDeep asks of a tree that is as said.
func tooDeep(t api.Tree) bool {
	for n := range t.Nodes {
		if Depth(t, n) > api.MaxDepth {
			return true
		}
	}
	return false
}
