package dom_test

import (
	"fmt"
	"math/rand"
	"slices"
	"testing"

	"casement/api"
	"casement/dom"
)

func element(name string, kids ...dom.Part) dom.Part { return dom.Part{Name: name, Kids: kids} }

func text(s string) dom.Part { return dom.Part{Text: s} }

// with is p with attributes: names and values by turns.
func with(p dom.Part, attrs ...string) dom.Part {
	for i := 0; i < len(attrs); i += 2 {
		p.Attrs = append(p.Attrs, api.Attr{Name: attrs[i], Value: attrs[i+1]})
	}
	return p
}

func made(t *testing.T, p dom.Part) api.Tree {
	t.Helper()
	x, why := dom.Make(p)
	if why != api.OK {
		t.Fatalf("P5.2: Make(%+v): %v", p, why)
	}
	return x
}

// drawn is a part of at most that depth, a root if root says so.
func drawn(from *rand.Rand, depth int, root bool) dom.Part {
	if !root && (depth == 0 || from.Intn(3) == 0) {
		return text(string(rune('p' + from.Intn(3))))
	}
	p := element(string(rune('a' + from.Intn(3))))
	for i := range from.Intn(3) {
		p = with(p, string(rune('x'+i)), fmt.Sprint(from.Intn(3)))
	}
	if depth > 0 {
		for range from.Intn(4) {
			p.Kids = append(p.Kids, drawn(from, depth-1, false))
		}
	}
	return p
}

// drawnTrees calls f with many trees and what they were made of.
func drawnTrees(t *testing.T, f func(p dom.Part, x api.Tree)) {
	t.Helper()
	from := rand.New(rand.NewSource(5))
	for range 2000 {
		p := drawn(from, from.Intn(6), true)
		f(p, made(t, p))
	}
}

// shapes calls f with every tree of up to most nodes, made of elements alone.
func shapes(t *testing.T, most int, f func(x api.Tree)) {
	t.Helper()
	var more func(parents []int)
	more = func(parents []int) {
		f(made(t, ofParents(parents)(0)))
		if len(parents) == most {
			return
		}
		for open := len(parents) - 1; open >= 0; open = parents[open] {
			more(append(slices.Clone(parents), open))
		}
	}
	more([]int{-1})
}

// ofParents makes the part of a number from the numbers of all parents.
func ofParents(parents []int) func(n int) dom.Part {
	var part func(n int) dom.Part
	part = func(n int) dom.Part {
		p := element("e")
		for k, parent := range parents {
			if parent == n {
				p.Kids = append(p.Kids, part(k))
			}
		}
		return p
	}
	return part
}

func TestRunsAndExamples(t *testing.T) {
	x := made(t, element("div", text("x"), element("p")))
	none := -1
	want := []api.Node{
		{Kind: api.Element, Name: "div", Parent: none, First: 1, Last: 2, Prev: none, Next: none},
		{Kind: api.Text, Text: "x", Parent: 0, First: none, Last: none, Prev: none, Next: 2},
		{Kind: api.Element, Name: "p", Parent: 0, First: none, Last: none, Prev: 1, Next: none},
	}
	if !sameNodes(x.Nodes, want) {
		t.Errorf("P5.2: %+v", x.Nodes)
	}
	for _, p := range []dom.Part{text("x"), {}} {
		if x, why := dom.Make(p); why != api.ErrTree || len(x.Nodes) != 0 {
			t.Errorf("P5.2: Make of the text %q: %v", p.Text, why)
		}
	}
	if dom.Depth(x, 2) != 2 || dom.Index(x, 2) != 1 {
		t.Errorf("P5.3: Depth %d, Index %d", dom.Depth(x, 2), dom.Index(x, 2))
	}
	if l := dom.Kids(x, 1); len(l) != 0 {
		t.Errorf("P5.3: kids of a text: %v", l)
	}
	if v, ok := dom.Attr(x, 0, "a"); ok || v != "" {
		t.Errorf("P5.3: an attribute that is not there: %q", v)
	}
	if l := slices.Collect(dom.All(x, -1)); len(l) != 0 {
		t.Errorf("P5.3: All of no node: %v", l)
	}
}

func sameNode(a, b api.Node) bool {
	return a.Kind == b.Kind && a.Name == b.Name && a.Text == b.Text && slices.Equal(a.Attrs, b.Attrs) &&
		a.Parent == b.Parent && a.First == b.First && a.Last == b.Last && a.Prev == b.Prev && a.Next == b.Next
}

func sameNodes(a, b []api.Node) bool { return slices.EqualFunc(a, b, sameNode) }

// P5.3, by plain ways: over the Parents alone

// over tells if above is n or stands over it.
func over(x api.Tree, above, n int) bool {
	for ; n >= 0; n = x.Nodes[n].Parent {
		if n == above {
			return true
		}
	}
	return false
}

func checkAsked(t *testing.T, x api.Tree) {
	t.Helper()
	for n, node := range x.Nodes {
		var below, kids []int
		depth, index := 0, 0
		for k, other := range x.Nodes {
			if over(x, n, k) {
				below = append(below, k)
			}
			if over(x, k, n) {
				depth++
			}
			if other.Parent == n {
				kids = append(kids, k)
			}
			if node.Kind == api.Element && other.Kind == api.Element && other.Parent == node.Parent && k <= n {
				index++
			}
		}
		if got := slices.Collect(dom.All(x, n)); !slices.Equal(got, below) {
			t.Errorf("P5.3: All from %d: %v, want %v", n, got, below)
		}
		if got := dom.Kids(x, n); !slices.Equal(got, kids) {
			t.Errorf("P5.3: Kids of %d: %v, want %v", n, got, kids)
		}
		if got := dom.Depth(x, n); got != depth {
			t.Errorf("P5.3: Depth of %d: %d, want %d", n, got, depth)
		}
		if got := dom.Index(x, n); got != index {
			t.Errorf("P5.3: Index of %d: %d, want %d", n, got, index)
		}
	}
}

func TestAsked(t *testing.T) {
	shapes(t, 7, func(x api.Tree) { checkAsked(t, x) })
	drawnTrees(t, func(_ dom.Part, x api.Tree) { checkAsked(t, x) })
}

func TestAskedOfALongAndADeepOne(t *testing.T) {
	long := made(t, element("r", slices.Repeat([]dom.Part{text("x"), element("e")}, api.MaxNodes/2-1)...))
	last := len(long.Nodes) - 1
	if got := dom.Index(long, last); got != api.MaxNodes/2-1 {
		t.Errorf("P5.3: Index of the last: %d", got)
	}
	if got := len(dom.Kids(long, 0)); got != last {
		t.Errorf("P5.3: %d kids", got)
	}
	deep := made(t, chain(api.MaxDepth))
	if got := dom.Depth(deep, api.MaxDepth-1); got != api.MaxDepth {
		t.Errorf("P5.3: Depth of the lowest: %d", got)
	}
	if got := len(slices.Collect(dom.All(deep, 1))); got != api.MaxDepth-1 {
		t.Errorf("P5.3: %d from the second on", got)
	}
}

// noNodes are numbers that no node of a tree of n nodes has.
func noNodes(n int) []int {
	return []int{-1 << 63, -1 << 31, -n, -2, -1, n, n + 1, 1 << 31, 1<<63 - 1}
}

func checkNoNode(t *testing.T, x api.Tree) {
	t.Helper()
	for _, n := range noNodes(len(x.Nodes)) {
		if n == 0 && len(x.Nodes) > 0 {
			continue
		}
		l := slices.Collect(dom.All(x, n))
		v, ok := dom.Attr(x, n, "a")
		if len(l) != 0 || len(dom.Kids(x, n)) != 0 || dom.Depth(x, n) != 0 || dom.Index(x, n) != 0 || v != "" || ok {
			t.Errorf("P5.3: there is no node %d of %d: All %v, Kids %v, Depth %d, Index %d, Attr %q, %v", n, len(x.Nodes), l, dom.Kids(x, n), dom.Depth(x, n), dom.Index(x, n), v, ok)
		}
	}
}

func TestNoNode(t *testing.T) {
	checkNoNode(t, api.Tree{})
	checkNoNode(t, api.Tree{Nodes: []api.Node{}})
	checkNoNode(t, made(t, with(element("e"), "a", "1")))
	checkNoNode(t, made(t, with(element("e", with(element("f", text("x")), "a", "2")), "a", "1")))
	// The room behind a list is not read.
	x := made(t, with(element("e", with(element("f", text("x")), "a", "2")), "a", "1"))
	x.Nodes = x.Nodes[:0]
	checkNoNode(t, x)
	if why := dom.Right(x); why != api.ErrTree {
		t.Errorf("P5.1: %v", why)
	}
}

func TestAttr(t *testing.T) {
	x := made(t, with(element("r", text("a"), with(element("e"), "a", "2"), element("f")), "a", "1", "b", "", "A", "3", "\u00e4", "4"))
	for _, c := range []struct {
		n     int
		name  string
		value string
		ok    bool
	}{
		{0, "a", "1", true}, {0, "b", "", true}, {0, "A", "3", true}, {0, "\u00e4", "4", true}, {0, "c", "", false}, {0, "", "", false}, {0, "B", "", false}, {0, "1", "", false},
		{1, "a", "", false}, {2, "a", "2", true}, {2, "b", "", false}, {3, "a", "", false},
	} {
		if v, ok := dom.Attr(x, c.n, c.name); v != c.value || ok != c.ok {
			t.Errorf("P5.3: Attr(%d, %q): %q, %v, want %q, %v", c.n, c.name, v, ok, c.value, c.ok)
		}
	}
}

func TestAllIsRangedOverAgainAndLeft(t *testing.T) {
	x := made(t, element("r", element("a", text("t"), element("b")), element("c")))
	for n := range x.Nodes {
		seq := dom.All(x, n)
		whole := slices.Collect(seq)
		for stop := range len(whole) + 1 {
			var got []int
			for k := range seq {
				if len(got) == stop {
					break
				}
				got = append(got, k)
			}
			if !slices.Equal(got, whole[:stop]) {
				t.Errorf("P5.3: All from %d, left after %d: %v", n, stop, got)
			}
		}
		for range seq {
			if again := slices.Collect(seq); !slices.Equal(again, whole) {
				t.Errorf("P5.3: All from %d, within itself: %v, want %v", n, again, whole)
			}
		}
		calls := 0
		seq(func(int) bool {
			calls++
			return false
		})
		if calls != 1 {
			t.Errorf("P5.3: All from %d goes on %d times after it was left", n, calls-1)
		}
	}
}

func TestAllKeepsNothing(t *testing.T) {
	x := made(t, element("r", element("a", text("t"), element("b")), element("c")))
	seq := dom.All(x, 1)
	for n := range x.Nodes {
		x.Nodes[n] = api.Node{Parent: -1}
	}
	if got := slices.Collect(seq); !slices.Equal(got, []int{1, 2, 3}) {
		t.Errorf("R2: All of a tree that was changed afterwards: %v", got)
	}
	x = made(t, element("r", element("a", element("b"), element("c"))))
	var got []int
	for n := range dom.All(x, 0) {
		got = append(got, n)
		clear(x.Nodes)
	}
	if !slices.Equal(got, []int{0, 1, 2, 3}) {
		t.Errorf("R2: All of a tree that is changed meanwhile: %v", got)
	}
}

func TestKidsAreNew(t *testing.T) {
	x := made(t, element("r", element("a"), element("b")))
	clear(dom.Kids(x, 0))
	if l := dom.Kids(x, 0); !slices.Equal(l, []int{1, 2}) {
		t.Errorf("R2: %v", l)
	}
}
