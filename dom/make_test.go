package dom_test

import (
	"slices"
	"strings"
	"testing"

	"casement/api"
	"casement/dom"
)

// chain is n elements, each in the one ahead of it.
func chain(n int) dom.Part {
	p := element("e")
	for range n - 1 {
		p = element("e", p)
	}
	return p
}

// plainMake puts p and what is in it behind nodes, each with its links looked for among those that are there.
func plainMake(nodes []api.Node, p dom.Part, parent int) []api.Node {
	n := len(nodes)
	node := api.Node{Kind: api.Element, Name: p.Name, Attrs: p.Attrs, Parent: parent, First: -1, Last: -1, Prev: -1, Next: -1}
	if p.Name == "" {
		node.Kind, node.Text, node.Attrs = api.Text, p.Text, nil
	}
	nodes = append(nodes, node)
	if p.Name == "" {
		return nodes
	}
	for _, kid := range p.Kids {
		k := len(nodes)
		nodes = plainMake(nodes, kid, n)
		if last := nodes[n].Last; last < 0 {
			nodes[n].First = k
		} else {
			nodes[last].Next, nodes[k].Prev = k, last
		}
		nodes[n].Last = k
	}
	return nodes
}

func samePart(a, b dom.Part) bool {
	return a.Name == b.Name && a.Text == b.Text && slices.Equal(a.Attrs, b.Attrs) && slices.EqualFunc(a.Kids, b.Kids, samePart)
}

// looked is p without what is not looked at.
func looked(p dom.Part) dom.Part {
	if p.Name == "" {
		return text(p.Text)
	}
	q := dom.Part{Name: p.Name, Attrs: p.Attrs}
	for _, kid := range p.Kids {
		q.Kids = append(q.Kids, looked(kid))
	}
	return q
}

// P5.2, P5.4

func checkThereAndBack(t *testing.T, p dom.Part, x api.Tree) {
	t.Helper()
	if want := plainMake(nil, p, -1); !sameNodes(x.Nodes, want) {
		t.Errorf("P5.2: Make(%+v): %+v, want %+v", p, x.Nodes, want)
	}
	if why := plainRight(x); why != api.OK {
		t.Errorf("P5.2: Make(%+v): %v", p, why)
	}
	back := dom.Parts(x)
	if !samePart(back, looked(p)) {
		t.Errorf("P5.4: Parts(Make(%+v)): %+v", p, back)
	}
	if again, why := dom.Make(back); why != api.OK || !sameNodes(again.Nodes, x.Nodes) {
		t.Errorf("P5.4: Make(Parts(%+v)): %+v, %v", x, again, why)
	}
}

func TestThereAndBack(t *testing.T) {
	drawnTrees(t, func(p dom.Part, x api.Tree) { checkThereAndBack(t, p, x) })
	shapes(t, 6, func(x api.Tree) { checkThereAndBack(t, dom.Parts(x), x) })
	for _, p := range []dom.Part{
		chain(api.MaxDepth),
		element("r", slices.Repeat([]dom.Part{text("x")}, api.MaxNodes-1)...),
		element("r", slices.Repeat([]dom.Part{element("e", text("x"))}, api.MaxNodes/2-1)...),
		with(element("r", text("\x00"), text(" "), with(element("\u00e4"), "\u00e4", "\x00", "B", "")), "b", "<\">"),
	} {
		checkThereAndBack(t, p, made(t, p))
	}
}

func TestMakeLooksAwayFromTextsOfElements(t *testing.T) {
	p := dom.Part{Name: "r", Text: "y", Kids: []dom.Part{{Name: "e", Text: "z", Kids: []dom.Part{text("x")}}}}
	checkThereAndBack(t, p, made(t, p))
}

func TestMakeLooksAwayFromWhatTextsHave(t *testing.T) {
	wrong := with(element("", text(""), chain(api.MaxDepth+1)), "a", "1", "a", "2", "", "3")
	wrong.Kids = append(wrong.Kids, make([]dom.Part, api.MaxNodes)...)
	wrong.Text = "x"
	p := element("r", wrong, element("e", wrong))
	checkThereAndBack(t, p, made(t, p))
	if _, why := dom.Make(wrong); why != api.ErrTree {
		t.Errorf("P5.2: of a text: %v", why)
	}
}

func TestMakeRefuses(t *testing.T) {
	var names []string
	for n := range api.MaxAttrs + 1 {
		names = append(names, strings.Repeat("a", n+1), "")
	}
	full, over := with(element("e"), names[:2*api.MaxAttrs]...), with(element("e"), names...)
	crowd := func(n int) []dom.Part { return slices.Repeat([]dom.Part{element("e")}, n) }
	for _, c := range []struct {
		what string
		p    dom.Part
		why  api.Errno
	}{
		{"nothing", dom.Part{}, api.ErrTree},
		{"a text", text("x"), api.ErrTree},
		{"an empty text", element("r", text("")), api.ErrTree},
		{"an empty text far below", element("r", element("e", text("x"), element("f", text("")))), api.ErrTree},
		{"64 attributes", element("r", full), api.OK},
		{"65 attributes", element("r", over), api.ErrTree},
		{"alike attributes", element("r", with(element("e"), "a", "", "b", "", "a", "1")), api.ErrTree},
		{"a nameless attribute", with(element("e"), "", "1"), api.ErrTree},
		{"MaxNodes", element("r", crowd(api.MaxNodes-1)...), api.OK},
		{"one past MaxNodes", element("r", crowd(api.MaxNodes)...), api.ErrMany},
		{"one past MaxNodes, further down", element("r", element("e", crowd(api.MaxNodes-2)...), element("e")), api.ErrMany},
		{"one past MaxNodes, at the lowest", element("r", append(crowd(api.MaxNodes-3), element("e", element("e", element("e"))))...), api.ErrMany},
		{"far past MaxNodes", element("r", crowd(1<<20)...), api.ErrMany},
		{"MaxDepth", chain(api.MaxDepth), api.OK},
		{"one past MaxDepth", chain(api.MaxDepth + 1), api.ErrDeep},
		{"a text one past MaxDepth", element("r", chainTo(api.MaxDepth-1, text("x"))), api.ErrDeep},
		{"a text at MaxDepth", element("r", chainTo(api.MaxDepth-2, text("x"))), api.OK},
		{"MaxNodes, each below the last", chain(api.MaxNodes), api.ErrDeep},
		{"one past MaxNodes, each below the last", chain(api.MaxNodes + 1), api.ErrMany},
		{"wrong and too many", with(element("r", append(crowd(api.MaxNodes-1), text(""))...), "", ""), api.ErrMany},
		{"wrong and too deep", element("r", chain(api.MaxDepth), text("")), api.ErrTree},
	} {
		x, why := dom.Make(c.p)
		if why != c.why || (len(x.Nodes) > 0) != (why == api.OK) {
			t.Errorf("P5.2: %s: %v and %d nodes, want %v", c.what, why, len(x.Nodes), c.why)
		}
	}
}

// chainTo is n elements, each in the one ahead of it, and p in the last one.
func chainTo(n int, p dom.Part) dom.Part {
	for range n {
		p = element("e", p)
	}
	return p
}

func TestMakeEnds(t *testing.T) {
	// Kids that hold themselves, deep ones and long ones.
	one := make([]dom.Part, 1)
	one[0] = element("e", one...)
	many := make([]dom.Part, 100000)
	for i := range many {
		many[i] = element("e", many...)
	}
	// Kids that are handed in once, but stand in many places.
	shared := element("e")
	for range 60 {
		shared = element("e", shared, shared)
	}
	heavy := element("r")
	attrs := make([]api.Attr, 1<<20)
	for range api.MaxNodes - 1 {
		heavy.Kids = append(heavy.Kids, dom.Part{Name: "e", Attrs: attrs})
	}
	for _, c := range []struct {
		p   dom.Part
		why api.Errno
	}{
		{element("r", one...), api.ErrMany}, {element("r", many...), api.ErrMany}, {element("r", shared), api.ErrMany}, {heavy, api.ErrTree},
	} {
		if x, why := dom.Make(c.p); why != c.why || len(x.Nodes) > 0 {
			t.Errorf("R1: %v, want %v", why, c.why)
		}
	}
}

// Nothing is promised of Parts of trees that are not right but that it ends; what it makes of them should stay bounded.
func TestPartsOfWrongTrees(t *testing.T) {
	for _, x := range []api.Tree{{}, {Nodes: make([]api.Node, 3)}, changed(made(t, element("r", element("e", text("x")))), 1)} {
		if p := dom.Parts(x); !samePart(p, dom.Part{}) {
			t.Errorf("P5.2: Parts(%+v): %+v", x, p)
		}
	}
	const length = 1 << 18
	x := api.Tree{Nodes: make([]api.Node, length)}
	for n := range x.Nodes {
		// By these links each node is a kid of all that are ahead of it.
		x.Nodes[n] = api.Node{Kind: api.Element, Name: "e", Parent: n - 1, First: n + 1, Last: length - 1, Prev: n - 1, Next: n + 1}
	}
	if p := dom.Parts(x); !samePart(p, dom.Part{}) {
		t.Error("P5.2: Parts of a tree whose links are wrong")
	}
}

// A tree that is only too deep or too long has its parts.
func TestPartsOfGreatTrees(t *testing.T) {
	parents := []int{-1}
	for n := range 2 * api.MaxDepth {
		parents = append(parents, n)
	}
	if p := dom.Parts(linkedByFew(parents)); !samePart(p, chain(2*api.MaxDepth+1)) {
		t.Error("P5.2: Parts of a deep tree")
	}
	crowd := slices.Repeat([]dom.Part{element("e")}, 2*api.MaxNodes)
	if p := dom.Parts(linkedByFew(append([]int{-1}, make([]int, 2*api.MaxNodes)...))); !samePart(p, element("e", crowd...)) {
		t.Error("P5.2: Parts of a long tree")
	}
}

// R2

func TestMakeKeepsNothing(t *testing.T) {
	attrs := make([]api.Attr, 2, 9)
	attrs[0], attrs[1] = api.Attr{Name: "a", Value: "1"}, api.Attr{Name: "b", Value: "2"}
	kids := make([]dom.Part, 0, 9)
	kids = append(kids, dom.Part{Name: "e", Attrs: attrs}, dom.Part{Name: "f", Attrs: attrs[:1]}, dom.Part{Name: "g", Attrs: attrs[:0]})
	x := made(t, dom.Part{Name: "r", Attrs: attrs, Kids: kids})
	want := plainMake(nil, with(element("r", with(element("e"), "a", "1", "b", "2"), with(element("f"), "a", "1"), element("g")), "a", "1", "b", "2"), -1)
	if !sameNodes(x.Nodes, want) {
		t.Fatalf("P5.2: %+v", x.Nodes)
	}
	if behind := attrs[:9]; behind[2] != (api.Attr{}) || kids[:4][3].Name != "" {
		t.Errorf("R2: written behind a list: %v", behind)
	}
	for n := range x.Nodes {
		// What is put behind one list must show in no other, nor in what was handed in.
		_ = append(x.Nodes[n].Attrs, api.Attr{Name: "z"}, api.Attr{Name: "z"})
	}
	clear(attrs[:9])
	clear(kids)
	if !sameNodes(x.Nodes, want) {
		t.Errorf("R2: changed with what was handed in: %+v", x.Nodes)
	}
	clear(x.Nodes[0].Attrs)
	if !sameNodes(x.Nodes[1:], want[1:]) {
		t.Errorf("R2: lists of one answer share memory: %+v", x.Nodes)
	}
}

func TestPartsKeepsNothing(t *testing.T) {
	p := with(element("r", with(element("e", text("x"), element("f")), "a", "1"), element("g", element("h"))), "a", "1", "b", "2")
	x := made(t, p)
	// Two nodes share a list: their parts must not.
	x.Nodes[1].Attrs = x.Nodes[0].Attrs[:1]
	got := dom.Parts(x)
	for n := range x.Nodes {
		clear(x.Nodes[n].Attrs)
	}
	clear(x.Nodes)
	if !samePart(got, p) {
		t.Errorf("R2: changed with what was handed in: %+v", got)
	}
	clear(got.Attrs)
	_ = append(got.Attrs, api.Attr{Name: "z"})
	_ = append(got.Kids[0].Kids, text("z"))
	if !samePart(got.Kids[0], p.Kids[0]) || !samePart(got.Kids[1], p.Kids[1]) {
		t.Errorf("R2: lists of one answer share memory: %+v", got)
	}
}

func TestAnswersAreNewEachTime(t *testing.T) {
	p := with(element("r", with(element("e"), "a", "1")), "a", "1")
	x, y := made(t, p), made(t, p)
	x.Nodes[0].Attrs[0].Value, x.Nodes[1] = "2", api.Node{}
	if !sameNodes(y.Nodes, plainMake(nil, p, -1)) {
		t.Errorf("R2: %+v", y.Nodes)
	}
	a, b := dom.Parts(y), dom.Parts(y)
	a.Attrs[0].Value, a.Kids[0] = "2", dom.Part{}
	if !samePart(b, p) {
		t.Errorf("R2: %+v", b)
	}
}
