package mark_test

import (
	"fmt"
	"math/rand"
	"reflect"
	"slices"
	"strings"
	"testing"
	"unicode/utf8"

	"casement/api"
	"casement/mark"
)

// same tells if two lists of tokens say the same: nil and empty lists mean the same.
func same(a, b []mark.Token) bool {
	return slices.EqualFunc(a, b, func(x, y mark.Token) bool {
		return x.Kind == y.Kind && x.Name == y.Name && x.Text == y.Text && x.Closed == y.Closed && slices.Equal(x.Attrs, y.Attrs)
	})
}

func check(t *testing.T, s string, want ...mark.Token) {
	t.Helper()
	if got := mark.Tokens([]rune(s)); !same(got, want) {
		t.Errorf("P4.1: Tokens(%q): %+v, want %+v", s, got, want)
	}
}

func chars(s string) mark.Token { return mark.Token{Kind: mark.Chars, Text: s} }

// open is an open tag of that name with attributes: names and values by turns.
func open(name string, attrs ...string) mark.Token {
	t := mark.Token{Kind: mark.Open, Name: name}
	for i := 0; i < len(attrs); i += 2 {
		t.Attrs = append(t.Attrs, api.Attr{Name: attrs[i], Value: attrs[i+1]})
	}
	return t
}

func closed(t mark.Token) mark.Token {
	t.Closed = true
	return t
}

func shut(name string) mark.Token { return mark.Token{Kind: mark.Close, Name: name} }

func TestRunsAndExamples(t *testing.T) {
	check(t, `<P a=1 B='x&lt;' a=2/>t`, open("p", "a", "1", "b", "x<"), chars("t"))
	check(t, "a < b</p x>", chars("a < b"), shut("p"))
	check(t, "<br/><!-- <b> -->x<!y>z", closed(open("br")), chars("x"), chars("z"))
	check(t, "<style>a<b</STYLE >", open("style"), chars("a<b"), shut("style"))
	check(t, "<a")
	check(t, `<a b="`)
	check(t, "<p =x>", open("p", "=x", ""))
	check(t, "<", chars("<"))
	check(t, "</>")
	if got, want := mark.Unescape("&amp;lt;&#65;&#x110000;&bad;&#;"), "&lt;A"+bad+"&bad;&#;"; got != want {
		t.Errorf("P4.2: %q, want %q", got, want)
	}
	if mark.Chars != 1 || mark.Open != 2 || mark.Close != 3 {
		t.Errorf("kinds: %d %d %d", mark.Chars, mark.Open, mark.Close)
	}
}

func TestNothing(t *testing.T) {
	for _, l := range [][]rune{nil, {}} {
		if got := mark.Tokens(l); len(got) != 0 {
			t.Errorf("P4.1: Tokens(%v): %+v", l, got)
		}
	}
	if got := mark.Unescape(""); got != "" {
		t.Errorf("P4.2: of nothing: %q", got)
	}
}

// P4.1, by hand

func TestOpenTags(t *testing.T) {
	check(t, "<p>", open("p"))
	check(t, "<Z1-ö<\"=&lt;>", open("z1-ö<\"=&lt;"))
	check(t, "<aÄK\u212a>", open("aÄk\u212a"))
	check(t, "<a@[`{ b@[`{>", open("a@[`{", "b@[`{", ""))
	for _, b := range []string{" ", "\t", "\n", "\f", "/"} {
		check(t, "<p"+b+"q>", open("p", "q", ""))
		check(t, "<p q"+b+"r>", open("p", "q", "", "r", ""))
	}
	for _, b := range []string{"\r", "\v", "\u00a0", "\u2003"} {
		check(t, "<p"+b+"q>", open("p"+b+"q"))
		check(t, "<p a=1"+b+">", open("p", "a", "1"+b))
	}
	for _, first := range []string{"1", " ", "-", "\u00e4", "\u212a", "@", "[", "`", "{", "<", ">", "=", "&", ".", "\x00", "\u017f"} {
		check(t, "<"+first+">", chars("<"+first+">"))
	}
	for _, first := range []string{"a", "z", "A", "Z"} {
		check(t, "<"+first+">", open(strings.ToLower(first)))
	}
}

func TestAttributes(t *testing.T) {
	check(t, "<p A=X>", open("p", "a", "X"))
	check(t, "<p aÄ\u212a=1>", open("p", "aÄ\u212a", "1"))
	check(t, "<p a \t\n\f=\f\n\t b>", open("p", "a", "b"))
	check(t, "<p a= >x", open("p", "a", ""), chars("x"))
	check(t, "<p a=''>", open("p", "a", ""))
	check(t, `<p a="'>/ " b='">'>`, open("p", "a", "'>/ ", "b", `">`))
	check(t, `<p a=x"y'z=w<>`, open("p", "a", `x"y'z=w<`))
	check(t, `<p "a'<&lt;=1>`, open("p", `"a'<&lt;`, "1"))
	check(t, `<p a='1'b="2"c=3 d>`, open("p", "a", "1", "b", "2", "c", "3", "d", ""))
	check(t, "<p ==>", open("p", "=", ""))
	check(t, "<p ===>", open("p", "=", "="))
	check(t, "<p = = x>", open("p", "=", "x"))
	check(t, "<p a/=x>", open("p", "a", "", "=x", ""))
	check(t, "<p a /=x>", open("p", "a", "", "=x", ""))
	check(t, "<p a=&amp;lt; b='&#65;' c=\"&bad;\">", open("p", "a", "&lt;", "b", "A", "c", "&bad;"))
	check(t, "<p a=1 A=2 a b=3>", open("p", "a", "1", "b", "3"))
	check(t, "<p a A=2>", open("p", "a", ""))
}

func TestClosed(t *testing.T) {
	for _, s := range []string{"<p/>", "<p //>", "<p a/>", "<p a />", "<p a='1'/>", "<p a=1 />", "<p a= ''/>", "<p/ />"} {
		if got := mark.Tokens([]rune(s)); len(got) != 1 || !got[0].Closed {
			t.Errorf("P4.1: %q is Closed: %+v", s, got)
		}
	}
	for _, s := range []string{"<p>", "<p/ >", "<p/a>", "<p a=/>", "<p a=1/>", "<p a='/'>", "<p a= />", "<p / a>", "<p/\n>", "<p /a=''>", "<p /=>", "<p a='/'b>"} {
		if got := mark.Tokens([]rune(s)); len(got) != 1 || got[0].Closed {
			t.Errorf("P4.1: %q is not Closed: %+v", s, got)
		}
	}
}

func TestManyAttributes(t *testing.T) {
	for _, n := range []int{api.MaxAttrs - 1, api.MaxAttrs, api.MaxAttrs + 1, 2 * api.MaxAttrs} {
		want := open("p")
		text := "<p"
		for i := range n {
			// One of a name that is there already does not count.
			text += fmt.Sprintf(" a%d=%d a0=x A%d", i, i, i)
			if i < api.MaxAttrs {
				want.Attrs = append(want.Attrs, api.Attr{Name: fmt.Sprint("a", i), Value: fmt.Sprint(i)})
			}
		}
		check(t, text+"/>x", closed(want), chars("x"))
	}
}

func TestUnendedTags(t *testing.T) {
	whole := `<Ab /c d = "e>" f='g' h=i j = k l/>`
	for n := 2; n < len(whole); n++ {
		check(t, "x"+whole[:n], chars("x"))
		check(t, "x</"+whole[1:n], chars("x"))
	}
	check(t, "x"+whole+"y", chars("x"), closed(open("ab", "c", "", "d", "e>", "f", "g", "h", "i", "j", "k", "l", "")), chars("y"))
	check(t, "<style a='>x</style>")
	check(t, "<p a='>x</p>\"")
}

func TestCloseTags(t *testing.T) {
	check(t, "</P>", shut("p"))
	check(t, "</p/>x", shut("p"), chars("x"))
	check(t, "</p a='>' b=\">\" c/>x", shut("p"), chars("x"))
	check(t, "</style>a<b>", shut("style"), chars("a"), open("b"))
	check(t, "</1>x", chars("x"))
	check(t, "</ p>x", chars("x"))
	check(t, "</\u212a>x", chars("x"))
	check(t, "x</", chars("x"))
	check(t, "</'>'>", chars("'>"))
}

func TestComments(t *testing.T) {
	check(t, "<!---->x", chars("x"))
	check(t, "<!-->x-->y", chars("y"))
	check(t, "<!--->x-->y", chars("y"))
	check(t, "<!-- -- > -> --->y", chars("y"))
	check(t, "<!-- <!-- -->y-->", chars("y-->"))
	check(t, "<!--x>")
	check(t, "<!--x--")
	check(t, "<!--")
	check(t, "<!- -->y", chars("y"))
	check(t, "<!>-->", chars("-->"))
	check(t, "<!-x>y", chars("y"))
	check(t, "<!doctype \">\">y", chars("\">y"))
	check(t, "<?x ?>y", chars("y"))
	check(t, "<?", []mark.Token{}...)
	check(t, "<!")
	check(t, "a<!-- -->b", chars("a"), chars("b"))
	check(t, "<?--x>-->", chars("-->"))
}

func TestChars(t *testing.T) {
	check(t, "a<", chars("a<"))
	check(t, "<<", chars("<<"))
	check(t, "<<p>", chars("<"), open("p"))
	check(t, "1<2>3&lt;4&", chars("1<2>3<4&"))
	check(t, "&l<!---->t;", chars("&l"), chars("t;"))
	check(t, "&#60;b&#62;", chars("<b>"))
	check(t, " \n", chars(" \n"))
	check(t, ">-->]]>", chars(">-->]]>"))
}

func TestRawText(t *testing.T) {
	for _, name := range []string{"style", "script"} {
		upper := strings.ToUpper(name)
		check(t, "<"+upper+" a='>'>&lt;<b><!--</"+name+">-->", open(name, "a", ">"), chars("&lt;<b><!--"), shut(name), chars("-->"))
		for _, b := range []string{" ", "\t", "\n", "\f", "/", ">"} {
			check(t, "<"+name+">a</"+upper+b+">", append([]mark.Token{open(name), chars("a"), shut(name)}, rest(b)...)...)
		}
		check(t, "<"+name+">a</"+name, open(name), chars("a"))
		check(t, "<"+name+">a</"+name+"x>", open(name), chars("a</"+name+"x>"))
		check(t, "<"+name+">a</"+name+"\r>", open(name), chars("a</"+name+"\r>"))
		check(t, "<"+name+">a</"+name[1:], open(name), chars("a</"+name[1:]))
		check(t, "<"+name+">", open(name))
		check(t, "<"+name+"></"+name+">", open(name), shut(name))
		check(t, "<"+name+"/>a<b>", closed(open(name)), chars("a<b>"))
		check(t, "<"+name+">< /"+name+"></"+name+" x", open(name), chars("< /"+name+">"))
		check(t, "<"+name+"s>a<b>", open(name+"s"), chars("a"), open("b"))
	}
	check(t, "<style></script></style>", open("style"), chars("</script>"), shut("style"))
	check(t, "<script></style></script>", open("script"), chars("</style>"), shut("script"))
	check(t, "<style></\u017ftyle></style>", open("style"), chars("</\u017ftyle>"), shut("style"))
	check(t, "<\u017ftyle>", chars("<\u017ftyle>"))
}

// rest is what a `>` behind the tag's end is.
func rest(b string) []mark.Token {
	if b == ">" {
		return []mark.Token{chars(">")}
	}
	return nil
}

// P4.1, against a plain one

func against(t *testing.T, l []rune) {
	t.Helper()
	got, want := mark.Tokens(l), plainTokens(l)
	if !same(got, want) {
		t.Fatalf("P4.1: Tokens(%q): %+v, want %+v", string(l), got, want)
	}
}

// each calls f with each text of up to n of parts.
func each(parts []string, n int, f func(s string)) {
	var more func(s string, n int)
	more = func(s string, n int) {
		f(s)
		if n == 0 {
			return
		}
		for _, p := range parts {
			more(s+p, n-1)
		}
	}
	more("", n)
}

func TestAllShortOnes(t *testing.T) {
	each([]string{"<", ">", "/", "=", "a", " ", "'", "!", "-"}, 5, func(s string) { against(t, []rune(s)) })
	each([]string{"<", ">", "/", "=", "a", "B", " ", "'", "\""}, 5, func(s string) { against(t, []rune("<p "+s+">")) })
	each([]string{"-", ">", "<", "!", "?"}, 6, func(s string) { against(t, []rune("<!"+s+"-->x")) })
	each([]string{"<", "/", "style", "STYLE", "script", ">", " ", "&lt;"}, 5, func(s string) { against(t, []rune("<style>"+s)) })
}

func TestLongOnes(t *testing.T) {
	from := rand.New(rand.NewSource(4))
	parts := []string{"<", "</", ">", "/>", "=", "a", "B", " ", "\n", "'", "\"", "<!--", "-->", "<!", "<?", "style", "script", "<Style>", "</stYle>", "<script ", "</script", "&lt;", "&#65;", "&", "\u00e4", "\x00", "0"}
	for range 20000 {
		var s strings.Builder
		for range from.Intn(60) {
			s.WriteString(parts[from.Intn(len(parts))])
		}
		against(t, []rune(s.String()))
	}
}

func TestRunesThatNoTextHas(t *testing.T) {
	wrong := []rune{-1, -1 << 31, 0xd800, 0xdfff, 0x110000, 1<<31 - 1}
	for _, r := range wrong {
		l := slices.Concat([]rune("<a"), []rune{r}, []rune(" b"), []rune{r}, []rune("=c"), []rune{r}, []rune(" "), []rune{r}, []rune("d='"), []rune{r}, []rune("'>"), []rune{r}, []rune("</e"), []rune{r}, []rune("><style>"), []rune{r})
		want := []mark.Token{open("a"+bad, "b"+bad, "c"+bad, bad+"d", bad), chars(bad), shut("e" + bad), open("style"), chars(bad)}
		if got := mark.Tokens(l); !same(got, want) {
			t.Errorf("P4.1: rune %d: %+v, want %+v", r, got, want)
		}
		for _, s := range []string{"<", "</", "<!", "<!--", "<a", "<a b=", "<a b='", "</style"} {
			for _, tok := range mark.Tokens(slices.Concat([]rune(s), []rune{r}, []rune(">"))) {
				if !utf8.ValidString(tok.Name + tok.Text) {
					t.Errorf("R5: %q and rune %d: %+v", s, r, tok)
				}
			}
		}
	}
}

// P4.2

func checkUnescape(t *testing.T, s, want string) {
	t.Helper()
	if got := mark.Unescape(s); got != want {
		t.Errorf("P4.2: Unescape(%q): %q, want %q", s, got, want)
	}
}

func TestNamedEscapes(t *testing.T) {
	for name, want := range map[string]string{"amp": "&", "lt": "<", "gt": ">", "quot": "\"", "apos": "'", "nbsp": "\u00a0"} {
		checkUnescape(t, "&"+name+";", want)
		checkUnescape(t, "x&"+name+";y&"+name+";", "x"+want+"y"+want)
		for _, s := range []string{"&" + name, "&" + name + " ;", "& " + name + ";", "&" + strings.ToUpper(name) + ";", name + ";", "&" + name[1:] + ";", "&x" + name + ";", "&" + name + "x;"} {
			checkUnescape(t, s, s)
		}
	}
	checkUnescape(t, "&amp;amp;amp;", "&amp;amp;")
	checkUnescape(t, "&amp;#65;", "&#65;")
	checkUnescape(t, "&#38;lt;", "&lt;")
	checkUnescape(t, "&&lt;&", "&<&")
	checkUnescape(t, "&&#65;", "&A")
	checkUnescape(t, "&#&lt;", "&#<")
	checkUnescape(t, "&#x&lt;", "&#x<")
	checkUnescape(t, "&#6&lt;", "&#6<")
}

func TestNumberedEscapes(t *testing.T) {
	for _, r := range []rune{1, 9, 10, 13, ' ', '&', 'A', 0x7f, 0x80, 0xff, 0x7ff, 0x800, 0xd7ff, 0xe000, 0xfffd, 0xfffe, 0xffff, 0x10000, 0x10fffe, 0x10ffff} {
		for _, form := range []string{"&#%d;", "&#%08d;", "&#x%x;", "&#X%X;", "&#x%08X;", "&#X%08x;"} {
			checkUnescape(t, fmt.Sprintf(form, r), string(r))
		}
	}
	for _, n := range []int{0, 0xd800, 0xdbff, 0xdc00, 0xdfff, 0x110000, 0xffffff, 99999999} {
		for _, form := range []string{"&#%d;", "&#%08d;", "&#x%x;", "&#X%X;"} {
			checkUnescape(t, fmt.Sprintf(form, n), bad)
		}
	}
	for _, s := range []string{"ffffffff", "FFFFFFFF", "80000041", "100000a1", "00000000", "7fffffff"} {
		checkUnescape(t, "&#x"+s+";", bad)
	}
	for _, s := range []string{"&#000000065;", "&#x000000041;", "&#X100000000;", "&#4294967361;", "&#", "&#x", "&#;", "&#x;", "&#65", "&#x41", "&#65 ;", "&# 65;", "&#+65;", "&#-65;", "&#6_5;", "&#0x41;", "&#a;", "&#xg;", "&#x4G;", "&#x/;", "&#x:;", "&#x@;", "&#x`;", "&#/;", "&#:;", "&#xx41;", "&#\u0664;", "&x41;", "&65;"} {
		checkUnescape(t, s, s)
	}
}

func TestUnescapeAgainstPlain(t *testing.T) {
	each([]string{"&", "#", "x", "X", "4", "f", ";", "lt", "\xff", "\u00e4"}, 6, func(s string) {
		if got, want := mark.Unescape(s), plainUnescape(s); got != want {
			t.Fatalf("P4.2: Unescape(%q): %q, want %q", s, got, want)
		}
	})
}

func TestBytesStandAsTheyAre(t *testing.T) {
	for _, s := range []string{"\xff", "a\x80&\xc3", "\xed\xa0\x80", "\x00\r\n", "&\xff;", "&#\xff;"} {
		checkUnescape(t, s, s)
	}
	checkUnescape(t, "\xc3&lt;\xa4", "\xc3<\xa4")
}

// R1, R2, R4

func TestWhatIsHandedInStays(t *testing.T) {
	text := []rune("<P a='&lt;' B=c>x&amp;<STYLE>y</style></P>")
	l := append(slices.Clone(text), []rune("spare")...)
	before := slices.Clone(l)
	got := mark.Tokens(l[:len(text)])
	if !slices.Equal(l, before) {
		t.Errorf("R2: handed in: %q, then %q", string(before), string(l))
	}
	if !same(got, mark.Tokens(slices.Clip(text))) {
		t.Errorf("R5: with spare room: %+v", got)
	}
	clear(l)
	if !same(got, mark.Tokens(text)) {
		t.Errorf("R2: the answer changes with what was handed in: %+v", got)
	}
}

func TestListsAreApart(t *testing.T) {
	text := []rune("<p a=1 b=2 c=3><p a=1><p/><p a=1 b=2 c=3></p a=1>")
	want := mark.Tokens(text)
	got := mark.Tokens(text)
	for i := range got {
		room := got[i].Attrs[:cap(got[i].Attrs)]
		clear(room)
		for j := range got {
			if j != i && j > i && !reflect.DeepEqual(got[j], want[j]) {
				t.Fatalf("R2: token %d changes with %d", j, i)
			}
		}
	}
	clear(got[:cap(got)])
	if !same(mark.Tokens(text), want) {
		t.Errorf("R4: another answer the second time")
	}
}

// A text that is all beginnings must not take a step for each two of its places.
func TestLongTextsEnd(t *testing.T) {
	for _, part := range []string{"<", "<a", "<!--", "</", "<?", "&", "&#", "<style>", "<style", "</style", "<a b=", "<a '", "-", "<!---", "<a/", "=", "a="} {
		for _, ahead := range []string{"", "<p ", "<p a='", "<style>", "<!--"} {
			mark.Tokens([]rune(ahead + strings.Repeat(part, api.MaxSource/len(part))))
		}
		mark.Unescape(strings.Repeat(part, api.MaxSource))
	}
}
