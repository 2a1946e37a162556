package tree_test

import (
	"math/rand"
	"slices"
	"strconv"
	"strings"
	"testing"

	"casement/api"
	"casement/dom"
	"casement/mark"
	"casement/tree"
)

func element(name string, kids ...dom.Part) dom.Part { return dom.Part{Name: name, Kids: kids} }

func chars(text string) mark.Token { return mark.Token{Kind: mark.Chars, Text: text} }

// opens is an open tag: attributes by turns names and values.
func opens(name string, attrs ...string) mark.Token {
	token := mark.Token{Kind: mark.Open, Name: name}
	for i := 0; i < len(attrs); i += 2 {
		token.Attrs = append(token.Attrs, api.Attr{Name: attrs[i], Value: attrs[i+1]})
	}
	return token
}

func shuts(name string) mark.Token { return mark.Token{Kind: mark.Close, Name: name} }

// told writes the kids of a part: texts in quotes, an element's attributes and kids behind its name.
func told(p dom.Part) string {
	var out []string
	for _, kid := range p.Kids {
		if kid.Name == "" {
			out = append(out, strconv.Quote(kid.Text))
			continue
		}
		s := kid.Name
		for _, a := range kid.Attrs {
			s += "[" + a.Name + "=" + a.Value + "]"
		}
		if len(kid.Kids) > 0 {
			s += "(" + told(kid) + ")"
		}
		out = append(out, s)
	}
	return strings.ReplaceAll(strings.Join(out, " "), `"`, "'")
}

func parsed(t *testing.T, markup string) api.Tree {
	t.Helper()
	x, why := tree.Parse([]rune(markup))
	if why != api.OK {
		t.Fatalf("P6.2: %.60q: %v", markup, why)
	}
	return x
}

// checkRuns holds markup, behind each a "|" and what it must be, one run a line.
func checkRuns(t *testing.T, promise, runs string) {
	t.Helper()
	for run := range strings.Lines(runs) {
		markup, want, ok := strings.Cut(strings.TrimSpace(run), "|")
		if !ok {
			continue
		}
		markup, _ = strconv.Unquote(`"` + markup + `"`)
		x := parsed(t, markup)
		if got := told(dom.Parts(x)); got != strings.TrimSpace(want) {
			t.Errorf("%s: %q: %s, want %s", promise, markup, got, strings.TrimSpace(want))
		}
		if root := x.Nodes[0]; root.Kind != api.Element || root.Name != "root" || len(root.Attrs) != 0 {
			t.Errorf("%s: %q: the root is %+v", promise, markup, root)
		}
	}
}

func TestRunsAndExamples(t *testing.T) {
	checkRuns(t, "P6.1", `
		a<p>b<div>c|'a' p('b') div('c')
		<ul><li>1<li>2</ul>x|ul(li('1') li('2')) 'x'
		<table>x<td>1<td>2<tr><td>3</table>|'x' table(tr(td('1') td('2')) tr(td('3')))
		<b>1<i>2</b>3</i>4|b('1' i('2')) i('3') '4'
		</p>|p
		</div>|
		<br>x</br>|br 'x'
		|
		x<td>y|'x' td('y')
		<p><b>1<p>2|p(b('1')) p('2')
	`)
	for _, l := range [][]mark.Token{nil, {}} {
		x, why := tree.Build(l)
		want := api.Node{Kind: api.Element, Name: "root", Parent: -1, First: -1, Last: -1, Prev: -1, Next: -1}
		if why != api.OK || len(x.Nodes) != 1 || !sameNode(x.Nodes[0], want) {
			t.Errorf("P6.2: of no tokens: %+v, %v", x, why)
		}
	}
}

func TestChars(t *testing.T) {
	checkRuns(t, "P6.1", `
		a<!-- -->b<?x>c|'abc'
		a</x>b|'ab'
		a<br>b<!-- -->c|'a' br 'bc'
		<p>a</p>b|p('a') 'b'
		\u0020<p> </p> |' ' p(' ') ' '
		<table> </table>|table
		<table>\t</table>|table
		<table>\n</table>|table
		<table>\f</table>|table
		<table> \t\n\f </table>|table
		<table><tr> \t\n\f </table>|table(tr)
		<table>\r</table>|'\r' table
		<table>\v</table>|'\v' table
		<table>&nbsp;</table>|'\u00a0' table
		<table>\u3000</table>|'\u3000' table
		<table> x </table>|' x ' table
		<table><tr> x </table>|' x ' table(tr)
		<table> <!-- -->x<!-- --> <!-- -->y</table>|'xy' table
		<table> <td> <tr> </table> |table(tr(td(' ')) tr) ' '
		<tr> x|tr(' x')
		<tr> </tr> x|tr(' ') ' x'
		<tr> <td> </td> </tr> |tr(' ' td(' ') ' ') ' '
		<tr><table></table> x|tr(table ' x')
		a<table>b<tr>c<td>d</table>e|'abc' table(tr(td('d'))) 'e'
		<div>a<b>x</b><table>b<tr>c|div('a' b('x') 'bc' table(tr))
		<table><table>x</table>y|'x' table 'y' table
	`)
}

func TestABlankRowOutsideATable(t *testing.T) {
	checkRuns(t, "P6.1", `
		<table><div><tr> x|div(tr) ' x' table
		<table><div><tr> |div(tr) table
		<table><div> x <tr><td> |div(' x ' tr(td(' '))) table
		<tr><div><table></table> |tr(div(table ' '))
	`)
}

func TestBlocksEndAParagraph(t *testing.T) {
	for _, name := range []string{"div", "p", "ul", "li", "h1"} {
		checkRuns(t, "P6.1", strings.ReplaceAll(`
			<p>1<b>2<NAME>3|p('1' b('2')) NAME('3')
			<p>1<td>2<NAME>3|p('1' td('2' NAME('3')))
			<p>1<td><p>2<NAME>3|p('1' td(p('2') NAME('3')))
			<p>1</p><NAME>2|p('1') NAME('2')
		`, "NAME", name))
	}
	checkRuns(t, "P6.1", `
		<p>1<b>2<table><td>3|p('1' b('2')) table(tr(td('3')))
		<p>1<td>2<table><tr><td>3|p('1' td('2' table(tr(td('3')))))
		<p>1<td><p>2<table><tr><td>3|p('1' td(p('2') table(tr(td('3')))))
		<p>1</p><table>2|p('1') '2' table
		<p><table><td>x<p>y<div>z|p table(tr(td('x' p('y') div('z'))))
		<p><table><p>x|p p('x') table
		<div><p><div>x|div(p div('x'))
	`)
}

func TestOthersEndNoParagraph(t *testing.T) {
	for _, name := range []string{"span", "b", "a", "tr", "td", "x", "h2", "style", "root"} {
		checkRuns(t, "P6.1", "<p>1<"+name+">|p('1' "+name+")\n")
	}
	for _, name := range voids {
		checkRuns(t, "P6.1", "<p>1<"+name+">2|p('1' "+name+" '2')\n")
	}
	// A name in capitals, which no markup has, is none of the blocks.
	if x, _ := tree.Build([]mark.Token{opens("p"), opens("DIV")}); told(dom.Parts(x)) != "p(DIV)" {
		t.Errorf("P6.1: %s", told(dom.Parts(x)))
	}
}

func TestItems(t *testing.T) {
	checkRuns(t, "P6.1", `
		<li>1<li>2|li('1') li('2')
		<ul><li>1<ul><li>2<li>3</ul>4<li>5|ul(li('1' ul(li('2') li('3')) '4') li('5'))
		<li>1<ul><li>2|li('1' ul(li('2')))
		<li>1<td><li>2<li>3|li('1' td(li('2') li('3')))
		<ul><td><li>1<li>2|ul(td(li('1') li('2')))
		<li><ul><li><td><li>1|li(ul(li(td(li('1')))))
		<li><td><li><ul><li>1|li(td(li(ul(li('1')))))
		<li>1<tr><li>2|li('1' tr) li('2')
		<li>1<table><li>2|li('1' table) li('2')
		<li>1<ol><li>2|li('1' ol) li('2')
		<li>1<div><b>2<li>3|li('1' div(b('2'))) li('3')
		<li><p>1<li>2|li(p('1')) li('2')
		<p>1<li>2<p>3<li>4|p('1') li('2' p('3')) li('4')
		<ul>1</ul><li>2|ul('1') li('2')
		<li>1</li>2<li>3|li('1') '2' li('3')
	`)
}

func TestRowsAndCells(t *testing.T) {
	checkRuns(t, "P6.1", `
		<tr>1<tr>2|tr('1') tr('2')
		<table><tr><tr><tr>|table(tr tr tr)
		<table><tr><td>1<tr><td>2|table(tr(td('1')) tr(td('2')))
		<table><tr><td><b>1<tr>|table(tr(td(b('1'))) tr)
		<tr><td><table><tr>|tr(td(table(tr)))
		<table><tr><td><table><tr><td>1<tr>|table(tr(td(table(tr(td('1')) tr))))
		<tr><td><div><tr>1|tr(td(div)) tr('1')
		<td>1<td>2|td('1') td('2')
		<td>1<b><div><td>2|td('1' b(div)) td('2')
		<td><tr><td>1|td(tr(td('1')))
		<td><tr><td>1<td>2|td(tr(td('1') td('2')))
		<table><td>1|table(tr(td('1')))
		<table><td>1<td>2|table(tr(td('1') td('2')))
		<table><tr></tr><td>1|table(tr tr(td('1')))
		<table><td>1</td></tr><td>2|table(tr(td('1')) tr(td('2')))
		<table><div><td>1|div(td('1')) table
		<table><div><tr><td>1<td>2|div(tr(td('1') td('2'))) table
		<div><td><div><td>1|div(td(div) td('1'))
		<table id=a><td id=b>1|table[id=a](tr(td[id=b]('1')))
		<table><tr id=a><td id=b>1|table(tr[id=a](td[id=b]('1')))
	`)
	// As the words stand: behind the last open tr, which is the outer table's, the outer cell is open.
	checkRuns(t, "P6.1", "<table><td>1<table><td>2|table(tr(td('1' table) td('2')))\n")
}

func TestAheadOfATable(t *testing.T) {
	for _, name := range []string{"div", "p", "ul", "li", "h1", "a", "b", "span", "x"} {
		checkRuns(t, "P6.1", strings.ReplaceAll(`
			<table><NAME id=1>x</NAME>y|NAME[id=1]('x') 'y' table
			<table><tr><NAME>x<td>y|NAME('x' td('y')) table(tr)
			<tr><NAME>x|tr(NAME('x'))
		`, "NAME", name))
	}
	for _, name := range voids {
		checkRuns(t, "P6.1", "a<table>b<"+name+" id=1>c<tr><"+name+">d|'ab' "+name+"[id=1] 'c' "+name+" 'd' table(tr)\n")
	}
	checkRuns(t, "P6.1", `
		<div>1<table>2<i>3</i>4<tr>5</table>6|div('12' i('3') '45' table(tr) '6')
		<div><table><tr><td>1<table>2<tr>3<td>4</table>5|div(table(tr(td('123' table(tr(td('4'))) '5'))))
		<table><table><table>1|'1' table table table
		<table><table></table>1|table '1' table
		<table><b><table>1|b('1' table) table
		<table><tr><table>1<td>2|'1' table(tr(td('2'))) table(tr)
		<table><tr></table><tr>1|table(tr) tr('1')
		<table><b>1</table>2|b('1') table '2'
		<table></table><br>|table br
	`)
}

func TestOpenTakesAttributes(t *testing.T) {
	checkRuns(t, "P6.1", `
		<p a=1 b=2>x<br c=3/>|p[a=1][b=2]('x' br[c=3/])
		<div a/>x<br/>y|div[a=]('x' br 'y')
		<p/>x<p/>y|p('x') p('y')
		<root a=1>x|root[a=1]('x')
	`)
}

func TestClose(t *testing.T) {
	for _, name := range append([]string{"root", "div", "b", "x", "ul", "li", "td", "tr", "table"}, voids...) {
		checkRuns(t, "P6.1", "<span>x</"+name+">y|span('xy')\n")
	}
	for _, name := range append([]string{"root"}, "x", "span", "h1", "ul", "li", "tr", "td") {
		want := name + "('1') '2'"
		if name == "root" {
			want = "root('12')"
		}
		checkRuns(t, "P6.1", "<"+name+">1</"+name+">2|"+want+"\n")
	}
	checkRuns(t, "P6.1", `
		<div>1<div>2<x><y>3</div>4</div>5|div('1' div('2' x(y('3'))) '4') '5'
		<div>1<td>2</div>3|div('1' td('23'))
		<div><td><div>1</div>2</div>3|div(td(div('1') '23'))
		<td><div>1</td>2|td(div('1')) '2'
		<td><tr><td>1</td>2|td(tr(td('1') '2'))
		<tr><td>1</tr>2|tr(td('1')) '2'
		<tr><td><tr>1<td>2</tr>3|tr(td) tr('1' td('2')) '3'
		<table><tr><td><div>1</table>2|table(tr(td(div('1')))) '2'
		<table><tr><td><table><tr><td>1</tr>2</table>3</td></table>4|table(tr(td('2' table(tr(td('1'))) '3'))) '4'
		<b><td>1</b>2|b(td('12'))
		<td><b><td>1</b>2|td(b) td('12')
		<td><tr><td><tr>1</td>2|td(tr(td) tr('1')) '2'
		<p>1</p>2|p('1') '2'
		<p><b>1</p>2|p(b('1')) '2'
	`)
}

func TestCloseOfNoParagraph(t *testing.T) {
	checkRuns(t, "P6.1", `
		1</p>2</p>3|'1' p '2' p '3'
		<p>1<td>2</p>3|p('1' td('2' p '3'))
		<p>1<td></p><p>2</p>3|p('1' td(p p('2') '3'))
		<table></p>1|p '1' table
		<table><tr></p>1|p '1' table(tr)
		<tr></p>1|tr(p '1')
		<p>1<div>2</p>3|p('1') div('2' p '3')
		<b></p>1</b>2|b(p '1') '2'
	`)
}

func TestMarksAreOpenedAgain(t *testing.T) {
	for _, name := range marks {
		checkRuns(t, "P6.1", strings.ReplaceAll(`
			<x><NAME k=1>1<q>2</NAME>3|x(NAME[k=1]('1' q('2')) '3')
			<NAME k=1>1<NAME id=2>2<q>3</NAME>4|NAME[k=1]('1' NAME[id=2]('2' q('3')) '4')
			<q>1<NAME>2</q>3|q('1' NAME('2')) '3'
			<q><NAME>1</NAME>2</q>3|q(NAME('1') '2') '3'
		`, "NAME", name))
		for _, other := range marks {
			if name != other {
				checkRuns(t, "P6.1", strings.NewReplacer("NAME", name, "OTHER", other).Replace(`
					<NAME k=1>1<OTHER id=2>2<q>3</NAME>4|NAME[k=1]('1' OTHER[id=2]('2' q('3'))) OTHER[id=2]('4')
				`))
			}
		}
	}
	checkRuns(t, "P6.1", `
		<b><div><i>1</b>2|b(div(i('1'))) i('2')
		<b><i><div><u><span>1</b>2|b(i(div(u(span('1'))))) i(u('2'))
		<b><em a=1 b=2><em a=1>1</b>2</em>3|b(em[a=1][b=2](em[a=1]('1'))) em[a=1][b=2](em[a=1]('2') '3')
		<b>1<b>2</b>3</b>4|b('1' b('2') '3') '4'
		<b><b><i>1</b>2</b>3|b(b(i('1')) i('2')) i('3')
		<table><tr><b><i>1</b>2|b(i('1')) i('2') table(tr)
		x<table><b><i>1</b></i>2|'x' b(i('1')) i '2' table
		<b><table><i>1</b>2|b(i('1') table) i('2')
		<td><b><i>1</b>2|td(b(i('1')) i('2'))
		<b><i><td>1</b>2</td>3</b>4|b(i(td('12') '3')) i('4')
		<b><p><i>1</p>2</b>3|b(p(i('1')) '2') '3'
		<h1><b>1</h1>2|h1(b('1')) '2'
	`)
}

// numberedMarks is from, and n marks in it, whose ids are 1, 2, 3 and so on.
func numberedMarks(from string, n int) string {
	for i := range n {
		from += "<i id=" + strconv.Itoa(i+1) + ">"
	}
	return from
}

func TestEightMarksAreOpenedAgain(t *testing.T) {
	for n := range 20 {
		x := parsed(t, numberedMarks("<b>", n)+"<span></b>x")
		var got []string
		above := x.Nodes[len(x.Nodes)-1].Parent
		for ; above > 0; above = x.Nodes[above].Parent {
			id, _ := dom.Attr(x, above, "id")
			got = append(got, id)
		}
		var want []string
		for id := n; id > 0 && id > n-8; id-- {
			want = append(want, strconv.Itoa(id))
		}
		if !slices.Equal(got, want) {
			t.Errorf("P6.1: of %d marks these are opened again: %v, want %v", n, got, want)
		}
		if len(x.Nodes) != 1+1+n+1+len(want)+1 {
			t.Errorf("P6.1: of %d marks: %d nodes", n, len(x.Nodes))
		}
	}
}

// P6.1, P6.2 against plain ways

func sameNode(a, b api.Node) bool {
	return a.Kind == b.Kind && a.Name == b.Name && a.Text == b.Text && slices.Equal(a.Attrs, b.Attrs) &&
		a.Parent == b.Parent && a.First == b.First && a.Last == b.Last && a.Prev == b.Prev && a.Next == b.Next
}

func checkBuild(t *testing.T, l []mark.Token) {
	t.Helper()
	want, wantWhy := dom.Make(plainPart(l))
	got, why := tree.Build(l)
	if why != wantWhy || !slices.EqualFunc(got.Nodes, want.Nodes, sameNode) {
		t.Fatalf("P6.1: %+v: %s, %v, want %s, %v", l, told(dom.Parts(got)), why, told(dom.Parts(want)), wantWhy)
	}
	checkTexts(t, got)
}

// checkTexts: no two texts stand side by side.
func checkTexts(t *testing.T, x api.Tree) {
	t.Helper()
	if why := dom.Right(x); len(x.Nodes) > 0 && why != api.OK {
		t.Errorf("P6.4: %v: %+v", why, x)
	}
	for _, n := range x.Nodes {
		if n.Kind == api.Text && n.Next >= 0 && x.Nodes[n.Next].Kind == api.Text {
			t.Errorf("P6.4: two texts side by side: %s", told(dom.Parts(x)))
		}
	}
}

func tokensOf(names ...string) []mark.Token {
	l := []mark.Token{chars("x"), chars(" ")}
	for _, name := range names {
		l = append(l, opens(name), shuts(name))
	}
	return l
}

// lists calls f with every list of n of those tokens.
func lists(n int, of []mark.Token, f func(l []mark.Token)) {
	l := make([]mark.Token, n)
	var fill func(i int)
	fill = func(i int) {
		if i == n {
			f(l)
			return
		}
		for _, token := range of {
			l[i] = token
			fill(i + 1)
		}
	}
	fill(0)
}

func TestAllShortLists(t *testing.T) {
	for n := range 4 {
		lists(n, tokensOf("p", "div", "ul", "li", "table", "tr", "td", "b", "i", "span", "br", "root"), func(l []mark.Token) { checkBuild(t, l) })
	}
	lists(5, tokensOf("table", "tr", "td", "b"), func(l []mark.Token) { checkBuild(t, l) })
	lists(5, tokensOf("p", "td", "li", "ul"), func(l []mark.Token) { checkBuild(t, l) })
}

func drawnTokens(from *rand.Rand, n int) []mark.Token {
	names := append([]string{"p", "table", "tr", "td", "td", "li", "ul", "span", "x", "style", "root", "P"}, slices.Concat(blocks, marks, voids)...)
	texts := []string{"x", " ", "\n\t", "y z", "\r", "\u00a0", "\f ", "\u00e4"}
	attrs := [][]string{nil, nil, {"id", "1"}, {"class", "a b", "id", ""}}
	var l []mark.Token
	for range n {
		switch name := names[from.Intn(len(names))]; from.Intn(5) {
		case 0, 1, 2:
			token := opens(name, attrs[from.Intn(len(attrs))]...)
			token.Closed = from.Intn(3) == 0
			l = append(l, token)
		case 3:
			l = append(l, shuts(name))
		default:
			l = append(l, chars(texts[from.Intn(len(texts))]))
		}
	}
	return l
}

func TestLongLists(t *testing.T) {
	from := rand.New(rand.NewSource(6))
	for range 40000 {
		checkBuild(t, drawnTokens(from, from.Intn(40)))
	}
	for range 40 {
		checkBuild(t, drawnTokens(from, 1000+from.Intn(6000)))
	}
}

// P6.2: limits

func TestLimits(t *testing.T) {
	const nodes, depth = api.MaxNodes, api.MaxDepth
	of := strings.Repeat
	for _, c := range []struct {
		what, markup string
		why          api.Errno
	}{
		{"MaxNodes of elements", of("<br>", nodes-1), api.OK},
		{"one past MaxNodes of elements", of("<br>", nodes), api.ErrMany},
		{"MaxNodes, a text the last", of("<br>", nodes-2) + "x", api.OK},
		{"one past MaxNodes, a text the last", of("<br>", nodes-1) + "x", api.ErrMany},
		{"texts that join", of("<br>", nodes-2) + of("x<!>", 1000), api.OK},
		{"blanks that are left out", of("<br>", nodes-2) + "<table>" + of(" <!>", 1000), api.OK},
		{"closes of nothing", of("<br>", nodes-1) + of("</x>", 1000), api.OK},
		{"a row that is put in, at MaxNodes", of("<br>", nodes-4) + "<table><td>", api.OK},
		{"a row that is put in, past MaxNodes", of("<br>", nodes-3) + "<table><td>", api.ErrMany},
		{"a paragraph that is put in, at MaxNodes", of("<br>", nodes-2) + "</p>", api.OK},
		{"a paragraph that is put in, past MaxNodes", of("<br>", nodes-1) + "</p>", api.ErrMany},
		{"marks opened again, at MaxNodes", of("<br>", nodes-5) + "<b><i></b><br>", api.OK},
		{"marks opened again, past MaxNodes", of("<br>", nodes-4) + "<b><i></b><br>", api.ErrMany},
		{"eight marks past MaxNodes", of("<br>", nodes-10) + "<b>" + of("<i>", 8) + "</b>", api.ErrMany},
		{"what follows one past MaxNodes", of("<br>", nodes) + of("</br>", 1000), api.ErrMany},
		{"much more than MaxNodes", of("<p>", 20000), api.ErrMany},
		{"MaxDepth", of("<b>", depth-1), api.OK},
		{"one past MaxDepth", of("<b>", depth), api.ErrDeep},
		{"one past MaxDepth, closed again", of("<b>", depth) + of("</b>", depth), api.ErrDeep},
		{"one past MaxDepth, without kids", of("<b>", depth-1) + "<br>", api.ErrDeep},
		{"MaxDepth, a text the lowest", of("<b>", depth-2) + "x", api.OK},
		{"one past MaxDepth, a text the lowest", of("<b>", depth-1) + "x", api.ErrDeep},
		{"one past MaxDepth, a paragraph put in", of("<b>", depth-1) + "</p>", api.ErrDeep},
		{"MaxDepth, a row put in", of("<b>", depth-4) + "<table><td>", api.OK},
		{"one past MaxDepth, a row put in", of("<b>", depth-3) + "<table><td>", api.ErrDeep},
		{"one past MaxDepth, marks opened again", "<b>" + of("<div>", depth-4) + "<i><u></b>", api.OK},
		{"elements that are closed", of("<b></b>", 1000), api.OK},
		{"a long row, ahead of tables", of("<table>", 1000) + "x", api.OK},
		{"too deep and too many", of("<b>", 300) + of("<br>", nodes), api.ErrMany},
		{"too many and too deep", of("<br>", nodes-200) + of("<b>", 300), api.ErrMany},
		{"too deep, MaxNodes", of("<b>", 300) + of("<br>", nodes-301), api.ErrDeep},
		{"each below the last, MaxNodes", of("<b>", nodes-1), api.ErrDeep},
		{"each below the last, one past MaxNodes", of("<b>", nodes), api.ErrMany},
	} {
		x, why := tree.Parse([]rune(c.markup))
		if why != c.why || (why != api.OK && len(x.Nodes) != 0) {
			t.Errorf("P6.2: %s: %d nodes, %v, want %v", c.what, len(x.Nodes), why, c.why)
		}
		checkTexts(t, x)
	}
}

func TestALongTextIsWhole(t *testing.T) {
	for _, table := range []string{"", "<table>"} {
		var markup strings.Builder
		var want strings.Builder
		for i := range 5000 {
			markup.WriteString(table + strconv.Itoa(i) + "<!>")
			want.WriteString(strconv.Itoa(i))
			table = ""
		}
		if x := parsed(t, markup.String()); x.Nodes[1].Text != want.String() {
			t.Errorf("P6.1: %d bytes, want %d", len(x.Nodes[1].Text), want.Len())
		}
	}
}

func TestAttributesAtTheLimit(t *testing.T) {
	markup := "<b><i"
	for i := range api.MaxAttrs + 5 {
		markup += " a" + strconv.Itoa(i)
	}
	x := parsed(t, markup+"></b>x")
	for _, n := range []int{2, 3} {
		if got := x.Nodes[n]; got.Name != "i" || len(got.Attrs) != api.MaxAttrs || got.Attrs[api.MaxAttrs-1].Name != "a63" {
			t.Errorf("P6.1: node %d: %+v", n, got)
		}
	}
}

// P6.3

func TestParseIsBuildOfTokens(t *testing.T) {
	for _, markup := range []string{"", "x", "<P A=1>x&lt;<B>y</p>z", "<style><p></STYLE><p>", "<table>&#32;&nbsp;<td", "\x00<a =>&#0;</a x>"} {
		x, why := tree.Parse([]rune(markup))
		y, whyY := tree.Build(mark.Tokens([]rune(markup)))
		if why != whyY || !slices.EqualFunc(x.Nodes, y.Nodes, sameNode) {
			t.Errorf("P6.3: %q: %+v, %v, want %+v, %v", markup, x, why, y, whyY)
		}
	}
	checkRuns(t, "P6.3", `
		<P A=1>x&lt;<B>y</p>z|p[a=1]('x<' b('y')) 'z'
		<style><p></STYLE><p>x|style('<p>') p('x')
	`)
	for _, l := range [][]rune{nil, {}} {
		if x, why := tree.Parse(l); why != api.OK || len(x.Nodes) != 1 {
			t.Errorf("R4: %+v, %v", x, why)
		}
	}
}

func TestVoid(t *testing.T) {
	for _, name := range voids {
		if !tree.Void(name) {
			t.Errorf("P6.3: Void(%q): false", name)
		}
		for _, other := range []string{name + " ", " " + name, strings.ToUpper(name), name[1:], name[:len(name)-1], name + name} {
			if tree.Void(other) {
				t.Errorf("P6.3: Void(%q): true", other)
			}
		}
	}
	for _, name := range slices.Concat(blocks, marks, []string{"", "root", "td", "tr", "span", "style", "wbr", "area", "col", "base", "embed", "source", "track", "param"}) {
		if tree.Void(name) {
			t.Errorf("P6.3: Void(%q): true", name)
		}
	}
}

// R1, R2

func TestAnyMarkup(t *testing.T) {
	from := rand.New(rand.NewSource(8))
	runes := []rune("<<<<>>>>//!-pbitdr=' x\n&;\x00")
	for range 20000 {
		l := make([]rune, from.Intn(60))
		for i := range l {
			l[i] = runes[from.Intn(len(runes))]
		}
		x, why := tree.Parse(l)
		if why != api.OK {
			t.Fatalf("P6.2: %q: %v", string(l), why)
		}
		checkTexts(t, x)
		checkBuild(t, mark.Tokens(l))
	}
}

// TestOtherTokens: of tokens that mark does not answer the calls end.
func TestOtherTokens(t *testing.T) {
	from := rand.New(rand.NewSource(9))
	names := []string{"", "p", "td", "tr", "table", "b", "i", "root", "br", "\xff", "P"}
	for range 20000 {
		l := make([]mark.Token, from.Intn(12))
		for i := range l {
			l[i] = mark.Token{Kind: from.Intn(6) - 1, Name: names[from.Intn(len(names))], Text: names[from.Intn(len(names))]}
			l[i].Attrs = slices.Repeat([]api.Attr{{Name: names[from.Intn(len(names))]}}, from.Intn(3)*from.Intn(40))
		}
		x, why := tree.Build(l)
		if why != api.OK && len(x.Nodes) != 0 {
			t.Fatalf("R3: %+v: %+v beside %v", l, x, why)
		}
	}
}

func TestTheCallsEndSoon(t *testing.T) {
	of := strings.Repeat
	for _, markup := range []string{
		of("<b>", api.MaxNodes-1) + of("</x>", 10000),
		of("<i>", api.MaxNodes-1) + of("x", 10000),
		of("<table>", api.MaxNodes-2) + of("x<!>", 10000),
		of("<table><br>", api.MaxNodes/2-1) + of("x<!>", 10000),
		of("<b>", 400) + of("</b>", 10000),
	} {
		tree.Parse([]rune(markup))
	}
}

func TestNothingIsChangedOrKept(t *testing.T) {
	l := []mark.Token{opens("b", "k", "1"), opens("i", "a", "2", "b", "3"), chars("x"), opens("i", "a", "2"), shuts("b"), chars("y"), opens("table"), chars("z")}
	l = append(l, make([]mark.Token, 3)...)[:len(l)]
	spare := l[:cap(l)]
	for i := range l {
		l[i].Attrs = append(l[i].Attrs, api.Attr{Name: "spare"})[:len(l[i].Attrs)]
	}
	x, _ := tree.Build(l)
	const want = "b[k=1](i[a=2][b=3]('x' i[a=2])) i[a=2][b=3](i[a=2]('yz' table))"
	if got := told(dom.Parts(x)); got != want {
		t.Fatalf("P6.1: %s", got)
	}
	for i, token := range spare {
		if i < len(l) && token.Attrs[:len(token.Attrs)+1][len(token.Attrs)].Name != "spare" || i >= len(l) && (token.Kind != 0 || token.Attrs != nil) {
			t.Errorf("R2: token %d was changed: %+v", i, token)
		}
	}
	// What one list of the answer gets, in its room too, no other one has; nor has a token.
	for n := range x.Nodes {
		attrs := x.Nodes[n].Attrs
		whole := attrs[:cap(attrs)]
		for i := range whole {
			whole[i] = api.Attr{Name: strconv.Itoa(n)}
		}
	}
	for n, node := range x.Nodes {
		for _, a := range node.Attrs[:cap(node.Attrs)] {
			if a.Name != strconv.Itoa(n) {
				t.Errorf("R2: node %d shares its attributes: %v", n, node.Attrs)
			}
		}
	}
	if l[1].Attrs[0].Name != "a" || l[1].Attrs[1].Name != "b" || l[0].Attrs[0].Name != "k" {
		t.Errorf("R2: the tokens' attributes are shared: %+v", l)
	}
	runes := append([]rune("<p a=1>x"), ' ', ' ')[:8]
	tree.Parse(runes)
	if string(runes[:10]) != "<p a=1>x  " {
		t.Errorf("R2: %q", string(runes))
	}
	// What the tokens become afterwards, the tree does not.
	x, _ = tree.Build(l)
	for i := range l {
		clear(l[i].Attrs)
	}
	if got := told(dom.Parts(x)); got != want {
		t.Errorf("R2: %s", got)
	}
}
