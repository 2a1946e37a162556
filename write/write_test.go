package write_test

import (
	"math/rand"
	"slices"
	"strings"
	"testing"
	"unicode/utf8"

	"casement/api"
	"casement/dom"
	"casement/mark"
	"casement/write"
)

func element(name string, kids ...dom.Part) dom.Part { return dom.Part{Name: name, Kids: kids} }

func text(s string) dom.Part { return dom.Part{Text: s} }

// with is p and attributes: by turns names and values.
func with(p dom.Part, attrs ...string) dom.Part {
	for i := 0; i < len(attrs); i += 2 {
		p.Attrs = append(p.Attrs, api.Attr{Name: attrs[i], Value: attrs[i+1]})
	}
	return p
}

func made(t *testing.T, p dom.Part) api.Tree {
	t.Helper()
	x, why := dom.Make(p)
	if why != api.OK {
		t.Fatalf("%+v: %v", p, why)
	}
	return x
}

// root is the tree of a root and kids.
func root(t *testing.T, kids ...dom.Part) api.Tree {
	t.Helper()
	return made(t, element("root", kids...))
}

// chain is n elements of that name, each in the one ahead of it.
func chain(name string, n int) dom.Part {
	p := element(name)
	for range n - 1 {
		p = element(name, p)
	}
	return p
}

// linked is the tree of elements that have these Parents and stand in document order, however many and deep they are.
func linked(parents []int) api.Tree {
	nodes := make([]api.Node, len(parents))
	for n, parent := range parents {
		nodes[n] = api.Node{Kind: api.Element, Name: "b", Parent: parent, First: -1, Last: -1, Prev: -1, Next: -1}
		if n == 0 {
			nodes[n].Name = "root"
			continue
		}
		if last := nodes[parent].Last; last < 0 {
			nodes[parent].First = n
		} else {
			nodes[last].Next, nodes[n].Prev = n, last
		}
		nodes[parent].Last = n
	}
	return api.Tree{Nodes: nodes}
}

// lists calls f with every list of n of those pieces, joined.
func lists(n int, of []string, ahead string, f func(s string)) {
	if n == 0 {
		f(ahead)
		return
	}
	for _, piece := range of {
		lists(n-1, of, ahead+piece, f)
	}
}

// P7.1

func checkEscape(t *testing.T, s string) {
	t.Helper()
	for _, quoted := range []bool{false, true} {
		got := write.Escape(s, quoted)
		if want := plainEscape(s, quoted); got != want {
			t.Fatalf("P7.1: Escape(%q, %v): %q, want %q", s, quoted, got, want)
		}
		if back := mark.Unescape(got); back != s {
			t.Fatalf("P7.1: Escape(%q, %v) is read as %q", s, quoted, back)
		}
	}
}

func TestEscapeByHand(t *testing.T) {
	for _, c := range []struct {
		s, want, quoted string
	}{
		{"", "", ""},
		{`"`, `"`, `&quot;`},
		{"&", "&amp;", "&amp;"},
		{"<", "&lt;", "&lt;"},
		{">", "&gt;", "&gt;"},
		{"\u00a0", "&nbsp;", "&nbsp;"},
		{"\r", "&#13;", "&#13;"},
		{"\r\n", "&#13;\n", "&#13;\n"},
		{"\n\t\f\v \x00\x1f\x7f", "\n\t\f\v \x00\x1f\x7f", "\n\t\f\v \x00\x1f\x7f"},
		{"'`/=;#", "'`/=;#", "'`/=;#"},
		{"&amp;&lt;", "&amp;amp;&amp;lt;", "&amp;amp;&amp;lt;"},
		{"a<b>c&d\"e", `a&lt;b&gt;c&amp;d"e`, "a&lt;b&gt;c&amp;d&quot;e"},
		{"<<\"\">>&&", `&lt;&lt;""&gt;&gt;&amp;&amp;`, "&lt;&lt;&quot;&quot;&gt;&gt;&amp;&amp;"},
		{"\u00e4\u00a0\ufffd\U0001f600", "\u00e4&nbsp;\ufffd\U0001f600", "\u00e4&nbsp;\ufffd\U0001f600"},
		{"\xff<\xc2<\xa0\xed\xa0\x80>\xc0\x80", "\xff&lt;\xc2&lt;\xa0\xed\xa0\x80&gt;\xc0\x80", "\xff&lt;\xc2&lt;\xa0\xed\xa0\x80&gt;\xc0\x80"},
		{"\xe0\u00a0\xf0\x9f\u00a0\xc2", "\xe0&nbsp;\xf0\x9f&nbsp;\xc2", "\xe0&nbsp;\xf0\x9f&nbsp;\xc2"},
	} {
		if got := write.Escape(c.s, false); got != c.want {
			t.Errorf("P7.1: %q: %q, want %q", c.s, got, c.want)
		}
		if got := write.Escape(c.s, true); got != c.quoted {
			t.Errorf("P7.1: %q, quoted: %q, want %q", c.s, got, c.quoted)
		}
	}
}

func TestEscapeOfEachRune(t *testing.T) {
	for r := range rune(utf8.MaxRune + 1) {
		if s := string(r); write.Escape(s, true) != s && !strings.ContainsRune("&<>\"\r\u00a0", r) {
			t.Fatalf("P7.1: %U: %q", r, write.Escape(s, true))
		}
	}
	var all strings.Builder
	for r := range rune(utf8.MaxRune + 1) {
		all.WriteRune(r)
		if all.Len() > 1000 {
			checkEscape(t, all.String())
			all.Reset()
		}
	}
}

func TestEscapeOfAllShort(t *testing.T) {
	for n := range 5 {
		lists(n, []string{"&", "<", ">", "\"", "\xc2", "\xa0", "\r", "\n", "x", "\x00", "\xff", "\xe2\x82", ";"}, "", func(s string) { checkEscape(t, s) })
	}
}

// P7.2

func checkMarkup(t *testing.T, p dom.Part) {
	t.Helper()
	if got, want := write.Markup(made(t, p)), plainKids(p); got != want {
		t.Fatalf("P7.2: Markup of %+v: %q, want %q", p, got, want)
	}
}

func TestMarkupByHand(t *testing.T) {
	for _, c := range []struct {
		p    dom.Part
		want string
	}{
		{element("root"), ""},
		{with(element("root"), "a", "1"), ""},
		{element("root", element("br")), "<br>"},
		{element("root", with(element("p", text("x < y")), "class", `a"`)), `<p class="a&quot;">x &lt; y</p>`},
		{element("root", text("a\"&\u00a0\r")), "a\"&amp;&nbsp;&#13;"},
		{element("root", text("a"), text("b"), text(" ")), "ab "},
		{element("root", element("b"), element("i", text("x"), element("u")), text("y")), "<b></b><i>x<u></u></i>y"},
		{element("root", with(element("b"), "x", "", "a", "'<>&\"\u00a0\r\n")), "<b x=\"\" a=\"'&lt;&gt;&amp;&quot;&nbsp;&#13;\n\"></b>"},
		{element("root", with(element("img"), "src", "a&b"), text("x")), `<img src="a&amp;b">x`},
		{element("root", element("style", text("a<b\"&\u00a0\r")), text("<")), "<style>a<b\"&\u00a0\r</style>&lt;"},
		{element("root", element("script", text("a<b"), text("&"))), "<script>a<b&</script>"},
		{element("root", with(element("style", text(">")), "a", "<")), `<style a="&lt;">></style>`},
		{element("root", element("style", text("<"), element("b", text("<")), text("<"))), "<style><<b>&lt;</b><</style>"},
		{element("root", element("STYLE", text("<")), element("Script", text("<"))), "<STYLE>&lt;</STYLE><Script>&lt;</Script>"},
		{element("style", text("<"), element("b", text("<"))), "<<b>&lt;</b>"},
		{element("script", text("&")), "&"},
		{element("br", text("<"), element("b")), "&lt;<b></b>"},
		{element("root", element("BR", text("x"))), "<BR>x</BR>"},
		{element("root", with(element("a<b"), "c\"d", "e")), `<a<b c"d="e"></a<b>`},
		{element("root", text("\xff<")), "\xff&lt;"},
	} {
		if got := write.Markup(made(t, c.p)); got != c.want {
			t.Errorf("P7.2: Markup of %+v: %q, want %q", c.p, got, c.want)
		}
	}
}

func TestMarkupOfVoids(t *testing.T) {
	for _, name := range append([]string{"b", "p", "td", "x", "br2", "wbr"}, voids...) {
		want := "x<" + name + ` a="1">`
		if !slices.Contains(voids, name) {
			want += "y<u>z</u></" + name + ">"
		}
		p := element("root", text("x"), with(element(name, text("y"), element("u", text("z"))), "a", "1"), text("v"))
		if got := write.Markup(made(t, p)); got != want+"v" {
			t.Errorf("P7.2: %q, want %q", got, want+"v")
		}
		checkMarkup(t, element("root", element(name), element("b", element(name), text("x"))))
	}
}

// drawn is kids of any names, n deep at most.
func drawn(r *rand.Rand, names, texts []string, n int) []dom.Part {
	var kids []dom.Part
	for range r.Intn(4) {
		name := names[r.Intn(len(names))]
		if name == "" {
			kids = append(kids, text(texts[r.Intn(len(texts))]+texts[r.Intn(len(texts))]))
			continue
		}
		p := element(name)
		if n > 1 {
			p.Kids = drawn(r, names, texts, n-1)
		}
		for _, i := range r.Perm(len(attrNames))[:r.Intn(3)] {
			p = with(p, attrNames[i], texts[r.Intn(len(texts))])
		}
		kids = append(kids, p)
	}
	return kids
}

var (
	attrNames = []string{"a", "b-1", "class", "style", "A", "x y"}
	pieces    = []string{"x", " ", "<", ">", "&", "\"", "'", "\u00a0", "\r", "\r\n", "\n", "\t", "&amp;", "&#13;", "&nbsp;", "</b>", "<!--", "-->", "\ufffd", "\ufeff", "\u00e4", "\U0001f600", "\x01", "/", "=", "`", "&lt", "&#", "</style>"}
)

func TestMarkupOfDrawn(t *testing.T) {
	r := rand.New(rand.NewSource(7))
	names := []string{"", "", "", "b", "p", "br", "hr", "img", "input", "link", "meta", "style", "script", "table", "tr", "ul", "root", "X"}
	for range 20000 {
		checkMarkup(t, with(element(names[3+r.Intn(len(names)-3)], drawn(r, names, pieces, 5)...), "a", "b"))
	}
}

func TestMarkupOfGreatTrees(t *testing.T) {
	checkMarkup(t, chain("b", api.MaxDepth))
	checkMarkup(t, element("root", slices.Repeat([]dom.Part{element("b")}, api.MaxNodes-1)...))
	checkMarkup(t, element("root", text(strings.Repeat("<", 1<<20))))
}

// wrongTrees is trees that are not right, by what is wrong with them.
func wrongTrees(t *testing.T) map[string]api.Tree {
	changed := func(change func(nodes []api.Node)) api.Tree {
		x := root(t, element("b", text("x")), element("i", text("y")))
		change(x.Nodes)
		return x
	}
	deep := []int{-1}
	for n := range api.MaxDepth {
		deep = append(deep, n)
	}
	return map[string]api.Tree{
		"no node":        {},
		"a zero node":    {Nodes: make([]api.Node, 1)},
		"a text":         {Nodes: []api.Node{{Kind: api.Text, Text: "x", Parent: -1, First: -1, Last: -1, Prev: -1, Next: -1}}},
		"too many":       linked(append([]int{-1}, make([]int, api.MaxNodes)...)),
		"too deep":       linked(deep),
		"an empty text":  changed(func(l []api.Node) { l[2].Text = "" }),
		"no name":        changed(func(l []api.Node) { l[1].Name = "" }),
		"two names":      changed(func(l []api.Node) { l[1].Attrs = []api.Attr{{Name: "a"}, {Name: "a"}} }),
		"nameless":       changed(func(l []api.Node) { l[1].Attrs = []api.Attr{{}} }),
		"a ring below":   changed(func(l []api.Node) { l[1].First, l[1].Last = 1, 1 }),
		"a ring beside":  changed(func(l []api.Node) { l[1].Next, l[3].Next = 3, 1 }),
		"a way outside":  changed(func(l []api.Node) { l[1].First = 99 }),
		"no kids in it":  changed(func(l []api.Node) { l[0].First, l[0].Last = -1, -1 }),
		"text with kids": changed(func(l []api.Node) { l[1].Kind, l[1].Name, l[1].Text = api.Text, "", "x" }),
	}
}

func TestTreesThatAreNotRight(t *testing.T) {
	for what, x := range wrongTrees(t) {
		if dom.Right(x) == api.OK {
			t.Fatalf("%s: the tree is right", what)
		}
		if got := write.Markup(x); got != "" {
			t.Errorf("P7.2: of a tree with %s: %.60q", what, got)
		}
		if write.Canonical(x) {
			t.Errorf("P7.3: of a tree with %s: canonical", what)
		}
	}
}

func TestAnyTreesEnd(t *testing.T) {
	r := rand.New(rand.NewSource(8))
	p := element("root", element("b", text("x"), element("i")), element("ul", element("li", text("y"))))
	for range 20000 {
		x := made(t, p)
		for range 1 + r.Intn(3) {
			node := &x.Nodes[r.Intn(len(x.Nodes))]
			links := []*int{&node.Kind, &node.Parent, &node.First, &node.Last, &node.Prev, &node.Next}
			*links[r.Intn(len(links))] = r.Intn(len(x.Nodes)+2) - 1
		}
		markup, canonical := write.Markup(x), write.Canonical(x)
		if right := dom.Right(x) == api.OK; right != (markup != "") || right != canonical {
			t.Fatalf("P7.2: of %+v: %q, %v", x, markup, canonical)
		}
	}
}

// R2

func TestNothingIsChanged(t *testing.T) {
	attrs := make([]api.Attr, 2, 5)
	attrs[0], attrs[1] = api.Attr{Name: "a", Value: "<"}, api.Attr{Name: "b"}
	x := root(t, element("b", text("<")), element("p", element("br")))
	x.Nodes[1].Attrs = attrs
	x.Nodes = append(make([]api.Node, 0, 9), x.Nodes...)
	before := slices.Clone(x.Nodes[:9])
	first, canonical := write.Markup(x), write.Canonical(x)
	for n, node := range x.Nodes[:9] {
		if !sameNode(node, before[n]) {
			t.Errorf("R2: the node %d is changed", n)
		}
	}
	if attrs[0] != (api.Attr{Name: "a", Value: "<"}) || attrs[1] != (api.Attr{Name: "b"}) || attrs[:3][2] != (api.Attr{}) {
		t.Errorf("R2: attributes are changed: %v", attrs[:5])
	}
	if write.Markup(x) != first || write.Canonical(x) != canonical {
		t.Error("R4: another answer of the same tree")
	}
	attrs[0].Value = "2"
	if got := write.Markup(x); got != `<b a="2" b="">&lt;</b><p><br></p>` {
		t.Errorf("R2: an earlier tree is kept: %q", got)
	}
}

func sameNode(a, b api.Node) bool {
	return a.Kind == b.Kind && a.Name == b.Name && a.Text == b.Text && slices.Equal(a.Attrs, b.Attrs) &&
		a.Parent == b.Parent && a.First == b.First && a.Last == b.Last && a.Prev == b.Prev && a.Next == b.Next
}
