package write_test

import (
	"math/rand"
	"slices"
	"strconv"
	"strings"
	"testing"
	"unicode/utf8"

	"casement/api"
	"casement/dom"
	"casement/source"
	"casement/tree"
	"casement/write"
)

// P7.3, P7.4

// checkCanonical holds Canonical of a root and kids against what it must be; what is canonical must come back.
func checkCanonical(t *testing.T, want bool, kids ...dom.Part) {
	t.Helper()
	x := root(t, kids...)
	if got := write.Canonical(x); got != want {
		t.Errorf("P7.3: of root: %+v: %v", kids, got)
	}
	if plainCanonical(element("root", kids...)) != want {
		t.Errorf("the plain way of root: %+v: not %v", kids, want)
	}
	if want {
		checkComesBack(t, x)
	}
}

// checkComesBack parses what a canonical tree is written as, if it is not too long.
func checkComesBack(t *testing.T, x api.Tree) {
	t.Helper()
	markup := write.Markup(x)
	if len(markup) > api.MaxSource {
		return
	}
	runes, why := source.Decode([]byte(markup))
	if why != api.OK {
		t.Fatalf("P7.4: %.200q: Decode: %v", markup, why)
	}
	back, why := tree.Parse(runes)
	if why != api.OK || !slices.EqualFunc(back.Nodes, x.Nodes, sameNode) {
		t.Fatalf("P7.4: %.200q is parsed to %+v, %v", markup, dom.Parts(back), why)
	}
}

// at is an element of that name with kids, where such a one may stand.
func at(name string, kids ...dom.Part) dom.Part {
	p := element(name, kids...)
	switch name {
	case "li":
		return element("ul", p)
	case "tr":
		return element("table", p)
	case "td":
		return element("table", element("tr", p))
	}
	return p
}

func TestTheRoot(t *testing.T) {
	checkCanonical(t, true)
	for _, p := range []dom.Part{
		element("div"), element("ROOT"), element("Root"), element("html"), element("p"), element("roots"), element("br"),
		element("b", element("root")), with(element("root"), "a", ""), with(element("root", element("b")), "a", "1"),
	} {
		if write.Canonical(made(t, p)) {
			t.Errorf("P7.3: canonical: %+v", p)
		}
	}
	checkCanonical(t, false, element("root"))
	checkCanonical(t, false, element("div", element("root")))
}

func TestNames(t *testing.T) {
	for _, name := range known {
		checkCanonical(t, true, at(name))
		checkCanonical(t, true, with(element("b"), "a", ""), at(name), text("x"))
		upper := strings.ToUpper(name)
		checkCanonical(t, false, element(upper))
		checkCanonical(t, false, element(name+"x"))
		checkCanonical(t, false, element(name+" "))
		checkCanonical(t, false, element("div", element(upper)))
	}
	for _, name := range strings.Fields("input link meta style script h2 h3 ol dl body html head th tbody s q c em1 strong form x \xff \u00e4 - 1 <b>") {
		checkCanonical(t, false, element(name))
		checkCanonical(t, false, element("div", element("b", element(name)), element("b")))
		checkCanonical(t, false, element("b"), element(name))
	}
}

func TestVoids(t *testing.T) {
	for _, name := range []string{"br", "hr", "img"} {
		checkCanonical(t, true, element(name), element(name), text("x"), element("p", element(name)))
		checkCanonical(t, true, with(element(name), "a", "1"))
		for _, kid := range []dom.Part{text("x"), text(" "), element("b"), element(name), element("br"), element("li"), element("p")} {
			checkCanonical(t, false, element(name, kid))
			checkCanonical(t, false, element("div", element("b"), element(name, kid)))
		}
	}
}

func TestAttributeNames(t *testing.T) {
	for name, want := range map[string]bool{
		"a": true, "m": true, "z": true, "aa": true, "az": true, "a0": true, "a9": true, "z5z": true, "a-": true, "a--b": true, "data-x": true, "style": true, "href": true, "class": true,
		"A": false, "Z": false, "aA": false, "aZ": false, "0": false, "9": false, "0a": false, "-": false, "-a": false, "a_": false, "_": false, "a.b": false, "a b": false, " a": false, "a ": false, "a=": false, "=": false, "a:": false, "a/": false, "a@": false, "a[": false, "a`": false, "`": false, "a{": false, "{": false, "\u00e4": false, "a\u00e4": false, "\xff": false, "a\xff": false, "a\x00": false, "a,b": false, "a\"": false, "a>": false, "a\n": false,
	} {
		checkCanonical(t, want, with(element("b"), name, "1"))
		checkCanonical(t, want, element("div", with(element("br"), "x", "", name, "")))
		checkCanonical(t, want, with(element("p", text("x")), name, "1", "y", "2"), text("x"))
	}
	for r := range rune(0x3000) {
		small := 'a' <= r && r <= 'z'
		if r == utf8.RuneError || r == 0 {
			continue
		}
		checkCanonical(t, small, with(element("b"), string(r), ""))
		checkCanonical(t, small || r == '-' || '0' <= r && r <= '9', with(element("b"), "a"+string(r), ""))
	}
}

func TestTextsAndValues(t *testing.T) {
	for s, want := range map[string]bool{
		"x": true, " ": true, "\n": true, "\r": true, "\r\n": true, "\t\f\v": true, "\x01": true, "\x7f": true, "\u0080": true, "\u00a0": true, "\ufffd": true, "\ufeff": true, "\ufffe": true, "\ud7ff\ue000": true, "\U0010ffff": true, "<b>&amp;\"'": true, "&#0;": true, "-->": true,
		"\x00": false, "a\x00": false, "\x00a": false, "\xff": false, "a\xffb": false, "\xc2": false, "\xa0": false, "\xc0\x80": false, "\xed\xa0\x80": false, "\xf4\x90\x80\x80": false, "\xf0\x9f\x98": false, "\xe2\x82": false,
	} {
		checkCanonical(t, want, text(s))
		checkCanonical(t, want, element("div", element("b"), text(s), element("p")))
		checkCanonical(t, want, with(element("br"), "a", s))
		checkCanonical(t, want, element("b", with(element("i", text("x")), "a", "", "b", s, "c", "")))
		checkCanonical(t, want, at("td", text(s)), at("li", text(s)))
	}
	checkCanonical(t, true, with(element("b"), "a", ""))
}

func TestEachRuneComesBack(t *testing.T) {
	var all strings.Builder
	for r := rune(1); r <= utf8.MaxRune; r++ {
		all.WriteRune(r)
		if all.Len() > 1000 || r == utf8.MaxRune {
			s := strings.ToValidUTF8(all.String(), "")
			checkCanonical(t, true, text(s), with(element("b", text(s)), "a", s))
			all.Reset()
		}
	}
}

func TestTextsSideBySide(t *testing.T) {
	x, b := text("x"), element("b")
	checkCanonical(t, true, x, b, x, element("br"), x)
	checkCanonical(t, true, element("b", x), x, element("b", x), element("b", x))
	checkCanonical(t, false, x, x)
	checkCanonical(t, false, x, text(" "))
	checkCanonical(t, false, x, b, x, x)
	checkCanonical(t, false, b, x, x, b)
	checkCanonical(t, false, element("b", x, x))
	checkCanonical(t, false, element("div", b, element("p", element("i", x, x), b)))
	checkCanonical(t, false, x, x, x)
}

// TestWhatMayStandIn holds each pair of a parent and a kid: rows stand in tables alone, and nothing else there, and so on.
func TestWhatMayStandIn(t *testing.T) {
	for _, parent := range known {
		for _, kid := range append([]string{""}, known...) {
			want := true
			switch {
			case parent == "table", parent == "tr", parent == "ul":
				want = parent+">"+kid == "table>tr" || parent+">"+kid == "tr>td" || parent+">"+kid == "ul>li"
			case parent == "br", parent == "hr", parent == "img", kid == "tr", kid == "td", kid == "li":
				want = false
			case parent == "p":
				want = !slices.Contains(notBelowP, kid)
			}
			p := element(kid)
			if kid == "" {
				p = text(" ")
			}
			checkCanonical(t, want, at(parent, p))
			checkCanonical(t, want, element("div", at(parent, p), element("b")), text("x"))
		}
	}
	for _, name := range []string{"tr", "td", "li"} {
		checkCanonical(t, false, element(name))
		checkCanonical(t, false, text("x"), element(name), element("b"))
	}
	checkCanonical(t, false, element("table", element("tr"), text("x")))
	checkCanonical(t, false, element("table", element("tr"), element("b"), element("tr")))
	checkCanonical(t, false, element("table", element("tr", element("td"), element("tr"))))
	checkCanonical(t, false, element("ul", element("li"), text("\n"), element("li")))
	checkCanonical(t, true, element("table", element("tr", element("td"), element("td")), element("tr")), element("ul", element("li"), element("li")))
	checkCanonical(t, true, at("td", at("td", at("li", at("li", at("td", text("x")))))))
}

func TestBelowAParagraph(t *testing.T) {
	x := text("x")
	for _, name := range known {
		if name == "tr" || name == "td" {
			continue
		}
		want := !slices.Contains(notBelowP, name) && name != "li"
		checkCanonical(t, want, element("p", element("b", element("span", at(name)))))
		checkCanonical(t, want, element("p", x, element("b", element("br"), at(name), x)))
		checkCanonical(t, want, at("td", element("p", element("b"), element("i", at(name)))))
		checkCanonical(t, true, element("p", element("b", x)), at(name))
		checkCanonical(t, true, element("div", element("p", element("b", x))), at(name))
		checkCanonical(t, true, at("li", element("p"), element("div", element("p"), at(name))))
	}
	checkCanonical(t, true, element("p"), element("p", x), element("p", element("hr"), element("img")))
	checkCanonical(t, true, at("li", element("p", x), at("td", element("p", x), element("p", element("a", x)))))
}

// forests calls f with all lists of trees of those names that have n nodes together; what has no name is a text.
func forests(n int, names []string, f func(kids []dom.Part)) {
	if n == 0 {
		f(nil)
		return
	}
	for first := 1; first <= n; first++ {
		for _, name := range names {
			if name == "" && first > 1 {
				continue
			}
			forests(first-1, names, func(in []dom.Part) {
				p := element(name, in...)
				if name == "" {
					p = text("x")
				}
				forests(n-first, names, func(behind []dom.Part) { f(append([]dom.Part{p}, behind...)) })
			})
		}
	}
}

func TestAllSmallTrees(t *testing.T) {
	met := 0
	each := func(kids []dom.Part) {
		want := plainCanonical(element("root", kids...))
		checkCanonical(t, want, kids...)
		if want {
			met++
		}
	}
	for n := range 4 {
		forests(n, append([]string{"", "root", "input", "x"}, known...), each)
	}
	forests(4, []string{"", "p", "div", "b", "table", "tr", "td", "ul", "li", "br"}, each)
	forests(5, []string{"", "p", "b", "ul", "li"}, each)
	forests(6, []string{"", "table", "tr", "td"}, each)
	if met < 10000 {
		t.Errorf("only %d canonical trees were met", met)
	}
}

// canonicalKids is drawn kids of an element of a canonical tree, n deep at most.
func canonicalKids(r *rand.Rand, parent string, inP bool, n int) []dom.Part {
	var kids []dom.Part
	if n == 0 || slices.Contains(voids, parent) {
		return nil
	}
	inP = inP || parent == "p"
	for range r.Intn(5) {
		name := onlyKid[parent]
		for name == "" && !(r.Intn(3) == 0 && (len(kids) == 0 || kids[len(kids)-1].Name != "")) {
			name = known[r.Intn(len(known))]
			if name == "li" || name == "tr" || name == "td" || inP && slices.Contains(notBelowP, name) {
				name = ""
			}
		}
		if name == "" {
			kids = append(kids, text(drawnText(r)+"."))
			continue
		}
		p := element(name, canonicalKids(r, name, inP, n-1)...)
		for i := range r.Intn(3) {
			p = with(p, []string{"a", "b-1", "style"}[i], drawnText(r))
		}
		kids = append(kids, p)
	}
	return kids
}

func drawnText(r *rand.Rand) string {
	var out strings.Builder
	for range r.Intn(4) {
		out.WriteString(pieces[r.Intn(len(pieces))])
	}
	return out.String()
}

func TestDrawnCanonicalTrees(t *testing.T) {
	r := rand.New(rand.NewSource(9))
	for range 20000 {
		checkCanonical(t, true, canonicalKids(r, "root", false, 7)...)
	}
}

// TestOneThingWrong puts one more thing at a drawn place of a canonical tree.
func TestOneThingWrong(t *testing.T) {
	r := rand.New(rand.NewSource(10))
	more := []dom.Part{text("x"), text("\x00"), text("\xff"), element("x"), element("p"), element("li"), element("tr"), element("td"), element("div"), element("b"), with(element("b"), "A", ""), with(element("b"), "a", "\x00")}
	met := [2]int{}
	for range 40000 {
		p := element("root", canonicalKids(r, "root", false, 6)...)
		into := &p
		for len(into.Kids) > 0 && r.Intn(4) > 0 {
			into = &into.Kids[r.Intn(len(into.Kids))]
		}
		if into.Name == "" {
			continue
		}
		into.Kids = slices.Insert(into.Kids, r.Intn(len(into.Kids)+1), more[r.Intn(len(more))])
		want := plainCanonical(p)
		checkCanonical(t, want, p.Kids...)
		if want {
			met[1]++
		} else {
			met[0]++
		}
	}
	if min(met[0], met[1]) < 2000 {
		t.Errorf("trees that are not and that are canonical: %v", met)
	}
}

func TestGreatCanonicalTrees(t *testing.T) {
	checkCanonical(t, true, chain("b", api.MaxDepth-1))
	checkCanonical(t, true, slices.Repeat([]dom.Part{element("b")}, api.MaxNodes-1)...)
	checkCanonical(t, true, slices.Repeat([]dom.Part{element("br"), text("x")}, (api.MaxNodes-1)/2)...)
	full := element("b")
	for n := range api.MaxAttrs {
		full = with(full, "a"+strconv.Itoa(n), strconv.Itoa(n))
	}
	checkCanonical(t, true, full)
	for _, s := range []string{strings.Repeat("x", api.MaxSource), strings.Repeat("&", api.MaxSource/len("&amp;")), strings.Repeat("x", api.MaxSource+1)} {
		checkCanonical(t, true, text(s))
	}
}
