package dom_test

import (
	"fmt"
	"math"
	"math/rand"
	"slices"
	"testing"

	"casement/api"
	"casement/dom"
)

// The plain way to tell a right tree: what the document says of it, sentence by sentence.

func plainRight(x api.Tree) api.Errno {
	switch {
	case len(x.Nodes) == 0:
		return api.ErrTree
	case len(x.Nodes) > api.MaxNodes:
		return api.ErrMany
	case !plainRoot(x.Nodes[0]) || !plainParents(x) || !plainNodes(x) || !plainLinks(x) || !plainOrder(x):
		return api.ErrTree
	}
	for n := range x.Nodes {
		depth := 0
		for up := n; up >= 0; up = x.Nodes[up].Parent {
			depth++
		}
		if depth > api.MaxDepth {
			return api.ErrDeep
		}
	}
	return api.OK
}

func plainRoot(n api.Node) bool {
	return n.Kind == api.Element && n.Parent == -1 && n.Prev == -1 && n.Next == -1
}

// plainParents: each other node has a Parent, which stands ahead of it.
func plainParents(x api.Tree) bool {
	for n, node := range x.Nodes {
		if n > 0 && (node.Parent < 0 || node.Parent >= n) {
			return false
		}
	}
	return true
}

func plainNodes(x api.Tree) bool {
	for _, n := range x.Nodes {
		names := map[string]bool{}
		for _, a := range n.Attrs {
			names[a.Name] = true
		}
		element := n.Kind == api.Element && n.Name != "" && n.Text == "" && len(n.Attrs) <= api.MaxAttrs && len(names) == len(n.Attrs) && !names[""]
		text := n.Kind == api.Text && n.Text != "" && n.Name == "" && len(n.Attrs) == 0 && n.First == -1 && n.Last == -1
		if !element && !text {
			return false
		}
	}
	return true
}

func kidsByParents(x api.Tree, n int) []int {
	var kids []int
	for k, node := range x.Nodes {
		if node.Parent == n {
			kids = append(kids, k)
		}
	}
	return kids
}

// plainLinks: from First to Last by Next, and back by Prev, one goes over just the kids.
func plainLinks(x api.Tree) bool {
	for n, node := range x.Nodes {
		kids := append([]int{-1}, append(kidsByParents(x, n), -1)...)
		if node.First != kids[1] || node.Last != kids[len(kids)-2] {
			return false
		}
		for i := 1; i < len(kids)-1; i++ {
			if kid := x.Nodes[kids[i]]; kid.Prev != kids[i-1] || kid.Next != kids[i+1] {
				return false
			}
		}
	}
	return true
}

// plainOrder: gone over from the root on, a node ahead of its kids, the numbers come in their order.
func plainOrder(x api.Tree) bool {
	var order []int
	var visit func(n int)
	visit = func(n int) {
		order = append(order, n)
		for _, k := range kidsByParents(x, n) {
			visit(k)
		}
	}
	visit(0)
	return len(order) == len(x.Nodes) && slices.IsSorted(order)
}

func checkRight(t *testing.T, x api.Tree) {
	t.Helper()
	if got, want := dom.Right(x), plainRight(x); got != want {
		t.Fatalf("P5.1: Right(%+v): %v, want %v", x, got, want)
	}
}

// askAll asks everything of a tree, right or not, and of numbers about its ends: the calls must end.
func askAll(x api.Tree) {
	for n := -2; n < len(x.Nodes)+2; n++ {
		dom.Kids(x, n)
		dom.Depth(x, n)
		dom.Index(x, n)
		dom.Attr(x, n, "a")
		for range dom.All(x, n) {
		}
	}
	dom.Parts(x)
	dom.Right(x)
}

// numbers are a node's numbers.
func numbers(n *api.Node) []*int {
	return []*int{&n.Kind, &n.Parent, &n.First, &n.Last, &n.Prev, &n.Next}
}

// P5.1

func TestRightOfSmallTreesWithTwoNumbersChanged(t *testing.T) {
	shapes(t, 4, func(x api.Tree) {
		checkRight(t, x)
		if dom.Right(x) != api.OK {
			t.Errorf("P5.1: %+v is right", x)
		}
		of := len(numbers(&api.Node{}))
		for at := range of * len(x.Nodes) {
			for and := range at + 1 {
				for a := -2; a <= len(x.Nodes); a++ {
					for b := -2; b <= len(x.Nodes); b++ {
						y := api.Tree{Nodes: slices.Clone(x.Nodes)}
						*numbers(&y.Nodes[at/of])[at%of] = a
						*numbers(&y.Nodes[and/of])[and%of] = b
						checkRight(t, y)
					}
				}
			}
		}
	})
}

func TestRightOfAllPairsOfNodes(t *testing.T) {
	numbers := []int{-1, 0, 1, 2}
	var nodes []api.Node
	for _, parent := range numbers {
		for _, first := range numbers {
			for _, last := range numbers {
				for _, prev := range numbers {
					for _, next := range numbers {
						nodes = append(nodes, api.Node{Kind: api.Element, Name: "e", Parent: parent, First: first, Last: last, Prev: prev, Next: next})
					}
				}
			}
		}
	}
	right := 0
	for _, a := range nodes {
		for _, b := range nodes {
			x := api.Tree{Nodes: []api.Node{a, b}}
			checkRight(t, x)
			if dom.Right(x) == api.OK {
				right++
			}
		}
	}
	if right != 1 {
		t.Errorf("P5.1: %d trees of two elements", right)
	}
}

func TestRightOfDrawnTreesWithOneThingChanged(t *testing.T) {
	from := rand.New(rand.NewSource(6))
	pick := []int{math.MinInt, -2, -1, 0, 1, 2, 3, math.MaxInt}
	drawnTrees(t, func(_ dom.Part, x api.Tree) {
		checkRight(t, x)
		for range 20 {
			y := api.Tree{Nodes: slices.Clone(x.Nodes)}
			n := &y.Nodes[from.Intn(len(y.Nodes))]
			switch i := from.Intn(9); i {
			case 6:
				n.Name = [2]string{"", "x"}[from.Intn(2)]
			case 7:
				n.Text = [2]string{"", "x"}[from.Intn(2)]
			case 8:
				n.Attrs = []api.Attr{{Name: "x"}, {Name: [3]string{"", "x", "y"}[from.Intn(3)]}}
			default:
				*numbers(n)[i] = append(pick, from.Intn(len(y.Nodes)))[from.Intn(len(pick)+1)]
			}
			checkRight(t, y)
		}
	})
}

// TestRightByTheOrderOfParents: numbers whose links fit their Parents, in document order or not.
func TestRightByTheOrderOfParents(t *testing.T) {
	const most = 6
	right := [most + 1]int{}
	var more func(parents []int)
	more = func(parents []int) {
		x := linkedBy(parents)
		checkRight(t, x)
		if dom.Right(x) == api.OK {
			right[len(parents)]++
		}
		if len(parents) < most {
			for parent := -1; parent <= len(parents)+1; parent++ {
				more(append(slices.Clone(parents), parent))
			}
		}
	}
	more([]int{-1})
	// The numbers of Catalan: so many shapes has a tree.
	if right != [most + 1]int{0, 1, 1, 2, 5, 14, 42} {
		t.Errorf("P5.1: so many trees are right: %v", right)
	}
}

// linkedBy is elements with those Parents and the links that fit them.
func linkedBy(parents []int) api.Tree {
	var x api.Tree
	for _, parent := range parents {
		x.Nodes = append(x.Nodes, api.Node{Kind: api.Element, Name: "e", Parent: parent, First: -1, Last: -1, Prev: -1, Next: -1})
	}
	for n := range x.Nodes {
		kids := kidsByParents(x, n)
		for i, k := range kids {
			x.Nodes[n].First, x.Nodes[n].Last = kids[0], k
			if i > 0 {
				x.Nodes[k].Prev, x.Nodes[kids[i-1]].Next = kids[i-1], k
			}
		}
	}
	return x
}

func TestRightOfWhatANodeHas(t *testing.T) {
	alone := api.Node{Kind: api.Element, Name: "r", Parent: -1, First: -1, Last: -1, Prev: -1, Next: -1}
	many := func(n int) []api.Attr {
		var l []api.Attr
		for i := range n {
			l = append(l, api.Attr{Name: fmt.Sprint("a", i)})
		}
		return l
	}
	for _, c := range []struct {
		what   string
		change func(n *api.Node)
		why    api.Errno
	}{
		{"a root alone", func(n *api.Node) {}, api.OK},
		{"kind 0", func(n *api.Node) { n.Kind = 0 }, api.ErrTree},
		{"kind 3", func(n *api.Node) { n.Kind = 3 }, api.ErrTree},
		{"a text", func(n *api.Node) { n.Kind, n.Name, n.Text = api.Text, "", "x" }, api.ErrTree},
		{"no name", func(n *api.Node) { n.Name = "" }, api.ErrTree},
		{"a text of its own", func(n *api.Node) { n.Text = "x" }, api.ErrTree},
		{"any name", func(n *api.Node) { n.Name = " \x00<\u00e4" }, api.OK},
		{"no list of attributes", func(n *api.Node) { n.Attrs = []api.Attr{} }, api.OK},
		{"attributes", func(n *api.Node) { n.Attrs = []api.Attr{{Name: "a"}, {Name: "A"}, {Name: "b", Value: "a"}} }, api.OK},
		{"a nameless attribute", func(n *api.Node) { n.Attrs = []api.Attr{{Name: "a"}, {Value: "a"}} }, api.ErrTree},
		{"alike attributes", func(n *api.Node) { n.Attrs = []api.Attr{{Name: "a"}, {Name: "b"}, {Name: "a", Value: "x"}} }, api.ErrTree},
		{"64 attributes", func(n *api.Node) { n.Attrs = many(api.MaxAttrs) }, api.OK},
		{"65 attributes", func(n *api.Node) { n.Attrs = many(api.MaxAttrs + 1) }, api.ErrTree},
		{"the 64th like the 63rd", func(n *api.Node) { n.Attrs = append(many(api.MaxAttrs-1), api.Attr{Name: "a62"}) }, api.ErrTree},
		{"the 64th like the 1st", func(n *api.Node) { n.Attrs = append(many(api.MaxAttrs-1), api.Attr{Name: "a0"}) }, api.ErrTree},
	} {
		n := alone
		c.change(&n)
		if why := dom.Right(api.Tree{Nodes: []api.Node{n}}); why != c.why {
			t.Errorf("P5.1: %s: %v, want %v", c.what, why, c.why)
		}
	}
}

func TestRightOfWhatATextHas(t *testing.T) {
	x := made(t, element("r", text("x"), element("e")))
	for _, c := range []struct {
		what   string
		change func(n *api.Node)
		why    api.Errno
	}{
		{"a text", func(n *api.Node) {}, api.OK},
		{"a blank one", func(n *api.Node) { n.Text = " " }, api.OK},
		{"of the rune 0", func(n *api.Node) { n.Text = "\x00" }, api.OK},
		{"an empty one", func(n *api.Node) { n.Text = "" }, api.ErrTree},
		{"with a name", func(n *api.Node) { n.Name = "x" }, api.ErrTree},
		{"with no list of attributes", func(n *api.Node) { n.Attrs = []api.Attr{} }, api.OK},
		{"with an attribute", func(n *api.Node) { n.Attrs = []api.Attr{{Name: "a"}} }, api.ErrTree},
	} {
		y := api.Tree{Nodes: slices.Clone(x.Nodes)}
		c.change(&y.Nodes[1])
		if why := dom.Right(y); why != c.why {
			t.Errorf("P5.1: %s: %v, want %v", c.what, why, c.why)
		}
	}
	// A text with a kid, whose links are right.
	y := made(t, element("r", element("e", element("f"))))
	y.Nodes[1].Kind, y.Nodes[1].Name, y.Nodes[1].Text = api.Text, "", "x"
	if why := dom.Right(y); why != api.ErrTree {
		t.Errorf("P5.1: a text with a kid: %v", why)
	}
	// Two texts side by side are right.
	if why := dom.Right(made(t, element("r", text("x"), text("y")))); why != api.OK {
		t.Errorf("P5.1: two texts: %v", why)
	}
}

func TestRightAtTheLimits(t *testing.T) {
	long := func(n int) api.Tree {
		parents := make([]int, n)
		parents[0] = -1
		return linkedByFew(parents)
	}
	deep := func(n int) api.Tree {
		parents := make([]int, n)
		for i := range parents {
			parents[i] = i - 1
		}
		return linkedByFew(parents)
	}
	for _, c := range []struct {
		what string
		x    api.Tree
		why  api.Errno
	}{
		{"no list", api.Tree{}, api.ErrTree},
		{"an empty list", api.Tree{Nodes: []api.Node{}}, api.ErrTree},
		{"a node of nothing", api.Tree{Nodes: make([]api.Node, 1)}, api.ErrTree},
		{"MaxNodes", long(api.MaxNodes), api.OK},
		{"MaxNodes of nothing", api.Tree{Nodes: make([]api.Node, api.MaxNodes)}, api.ErrTree},
		{"one past MaxNodes", long(api.MaxNodes + 1), api.ErrMany},
		{"one past MaxNodes, of nothing", api.Tree{Nodes: make([]api.Node, api.MaxNodes+1)}, api.ErrMany},
		{"MaxDepth", deep(api.MaxDepth), api.OK},
		{"one past MaxDepth", deep(api.MaxDepth + 1), api.ErrDeep},
		{"MaxNodes, each below the last", deep(api.MaxNodes), api.ErrDeep},
		{"one past MaxNodes, each below the last", deep(api.MaxNodes + 1), api.ErrMany},
		{"too deep and wrong in the first", changed(deep(api.MaxDepth+1), 0), api.ErrTree},
		{"too deep and wrong in the last", changed(deep(api.MaxDepth+1), api.MaxDepth), api.ErrTree},
	} {
		if why := dom.Right(c.x); why != c.why {
			t.Errorf("P5.1: %s: %v, want %v", c.what, why, c.why)
		}
		dom.Parts(c.x)
	}
	// Only one of two branches is too deep.
	x := deep(api.MaxDepth + 1)
	y := linkedByFew(append(parentsOf(x), 0))
	if why := dom.Right(y); why != api.ErrDeep {
		t.Errorf("P5.1: one branch too deep: %v", why)
	}
}

func parentsOf(x api.Tree) []int {
	var parents []int
	for _, n := range x.Nodes {
		parents = append(parents, n.Parent)
	}
	return parents
}

// linkedByFew is linkedBy for long lists.
func linkedByFew(parents []int) api.Tree {
	var x api.Tree
	for n, parent := range parents {
		x.Nodes = append(x.Nodes, api.Node{Kind: api.Element, Name: "e", Parent: parent, First: -1, Last: -1, Prev: -1, Next: -1})
		if n == 0 {
			continue
		}
		up := &x.Nodes[parent]
		if x.Nodes[n].Prev = up.Last; up.Last < 0 {
			up.First = n
		} else {
			x.Nodes[up.Last].Next = n
		}
		up.Last = n
	}
	return x
}

func changed(x api.Tree, n int) api.Tree {
	x.Nodes[n].Name = ""
	return x
}

func TestRightChangesNothing(t *testing.T) {
	p := with(element("r", text("x"), with(element("e"), "b", "2", "c", "3")), "a", "1")
	x, y := made(t, p), made(t, p)
	askAll(x)
	if !sameNodes(x.Nodes, y.Nodes) {
		t.Errorf("R2: %+v", x)
	}
}

// R1: of trees that are not right the calls end.

func TestTheCallsEnd(t *testing.T) {
	from := rand.New(rand.NewSource(7))
	wild := []int{math.MinInt, math.MinInt + 1, -1 << 31, -2, -1, 1 << 31, math.MaxInt - 1, math.MaxInt}
	for range 20000 {
		x := api.Tree{Nodes: make([]api.Node, from.Intn(7))}
		for i := range x.Nodes {
			n := &x.Nodes[i]
			n.Name, n.Text = [2]string{"", "x"}[from.Intn(2)], [2]string{"", "x"}[from.Intn(2)]
			for _, number := range numbers(n) {
				if *number = from.Intn(len(x.Nodes)+2) - 1; from.Intn(8) == 0 {
					*number = wild[from.Intn(len(wild))]
				}
			}
			if n.Kind = 1 + from.Intn(2); from.Intn(8) == 0 {
				n.Kind = wild[from.Intn(len(wild))]
			}
		}
		askAll(x)
		checkRight(t, x)
	}
}

// TestTheCallsEndSoon: links by which one could go for ever, or in more ways than one lives to see.
func TestTheCallsEndSoon(t *testing.T) {
	const length = 3000
	for _, link := range []func(n int) int{
		func(n int) int { return n },
		func(n int) int { return n + 1 },
		func(n int) int { return n - 1 },
		func(n int) int { return (n + 1) % length },
		func(n int) int { return (n + length - 1) % length },
		func(n int) int { return 0 },
		func(n int) int { return length - 1 },
		func(n int) int { return length },
	} {
		var x api.Tree
		for n := range length {
			to := link(n)
			x.Nodes = append(x.Nodes, api.Node{Kind: api.Element, Name: "e", Parent: to, First: to, Last: to, Prev: to, Next: to})
		}
		askAll(x)
		if why := dom.Right(x); why != api.ErrTree {
			t.Errorf("P5.1: %v", why)
		}
		x.Nodes[0].Parent, x.Nodes[0].Prev, x.Nodes[0].Next = -1, -1, -1
		askAll(x)
		if why := dom.Right(x); why != api.ErrTree {
			t.Errorf("P5.1: %v", why)
		}
	}
}
