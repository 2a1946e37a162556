package csstok_test

import (
	"fmt"
	"math"
	"math/rand"
	"slices"
	"strings"
	"testing"
	"unicode/utf8"

	"casement/api"
	"casement/csstok"
)

const bad = "\ufffd"

func ident(s string) csstok.Token  { return csstok.Token{Kind: csstok.Ident, Text: s} }
func hash(s string) csstok.Token   { return csstok.Token{Kind: csstok.Hash, Text: s} }
func at(s string) csstok.Token     { return csstok.Token{Kind: csstok.At, Text: s} }
func quoted(s string) csstok.Token { return csstok.Token{Kind: csstok.String, Text: s} }
func sign(s string) csstok.Token   { return csstok.Token{Kind: csstok.Sign, Text: s} }
func blank() csstok.Token          { return csstok.Token{Kind: csstok.Blank, Text: " "} }

// number is one with a point, whole one without.
func number(n int64, unit string) csstok.Token {
	return csstok.Token{Kind: csstok.Number, N: n, Unit: unit}
}

func whole(n int64, unit string) csstok.Token {
	return csstok.Token{Kind: csstok.Number, N: n, Unit: unit, Whole: true}
}

func check(t *testing.T, s string, want ...csstok.Token) {
	t.Helper()
	if got := csstok.Tokens([]rune(s)); !slices.Equal(got, want) {
		t.Errorf("P8.1: Tokens(%q): %+v, want %+v", s, got, want)
	}
}

func TestRunsAndExamples(t *testing.T) {
	check(t, "A-b:1.5px/**/ 2%", ident("a-b"), sign(":"), number(96, "px"), blank(), whole(128, "%"))
	check(t, `#1a @Media -x -1 .5 "a\"b`, hash("1a"), blank(), at("media"), blank(), ident("-x"), blank(), whole(-64, ""), blank(), number(32, ""), blank(), quoted(`a"b`))
	check(t, "#{}", sign("#"), sign("{"), sign("}"))
	check(t, "-.015", number(0, ""))
	check(t, "1.", whole(64, ""), sign("."))
	check(t, "+ 1", sign("+"), blank(), whole(64, ""))
	check(t, "/*")
}

func TestKinds(t *testing.T) {
	got := []int{csstok.Ident, csstok.Hash, csstok.At, csstok.Number, csstok.String, csstok.Sign, csstok.Blank}
	if !slices.Equal(got, []int{1, 2, 3, 4, 5, 6, 7}) {
		t.Errorf("kinds: %v", got)
	}
}

func TestNothing(t *testing.T) {
	for _, l := range [][]rune{nil, {}, make([]rune, 0, 4)} {
		if got := csstok.Tokens(l); len(got) != 0 {
			t.Errorf("P8.1: Tokens(%v): %+v", l, got)
		}
	}
	for _, l := range [][]csstok.Token{nil, {}, {blank()}, {blank(), blank()}} {
		if got := csstok.Text(l); got != "" {
			t.Errorf("P8.2: Text(%+v): %q", l, got)
		}
	}
}

// P8.1, by hand

func TestComments(t *testing.T) {
	for _, s := range []string{"/**/", "/* a */", "/*/", "/*/*/", "/**", "/***/", "/* * / */", "/*\n*/", "/*'*/", "/**//**/", "/*a*//*b"} {
		check(t, s)
		check(t, "a"+s, ident("a"))
	}
	check(t, "/*/a*/b", ident("b"))
	check(t, "/*/*a*/b*/", ident("b"), sign("*"), sign("/"))
	check(t, "a/**/b", ident("a"), ident("b"))
	check(t, "1/**/px", whole(64, ""), ident("px"))
	check(t, "-/**/1", sign("-"), whole(64, ""))
	check(t, "#/**/a", sign("#"), ident("a"))
	check(t, "@/**/a", sign("@"), ident("a"))
	check(t, "/ **/", sign("/"), blank(), sign("*"), sign("*"), sign("/"))
	check(t, "*/", sign("*"), sign("/"))
	check(t, "/", sign("/"))
	check(t, "//*a*/", sign("/"))
	check(t, "'/*'*/", quoted("/*"), sign("*"), sign("/"))
	check(t, "a/*b", ident("a"))
}

func TestBlanks(t *testing.T) {
	for _, s := range []string{" ", "\t", "\n", "\f", "  ", " \t\n\f", " /**/ ", " /**//* */\n", "/**/ ", " /**/\t/**/\f/**/"} {
		check(t, s, blank())
		check(t, "a"+s+"/**/1", ident("a"), blank(), whole(64, ""))
		check(t, s+"a", blank(), ident("a"))
	}
	check(t, " /* ", blank())
	check(t, " a ", blank(), ident("a"), blank())
	for _, s := range []string{"\r", "\v", "\x00", "\x1f", "\x7f"} {
		check(t, s, sign(s))
		check(t, "a"+s+" b", ident("a"), sign(s), blank(), ident("b"))
	}
	for _, s := range []string{"\u00a0", "\u0085", "\u2028", "\ufeff"} {
		check(t, "a"+s+"b", ident("a"+s+"b"))
	}
}

func TestNames(t *testing.T) {
	for _, s := range []string{"a", "z", "_", "\u0080", "\u00c9", "\u212a", "\U0010ffff", bad, "a0", "a9z", "_-", "__", "a--", "-a", "-_", "-\u0080", "-a-", "-a1", "a\u0130b"} {
		check(t, s, ident(s))
		check(t, "#"+s, hash(s))
		check(t, "@"+s, at(s))
		check(t, "5"+s, whole(320, s))
		check(t, s+"("+s, ident(s), sign("("), ident(s))
	}
	check(t, "AZ-Bm_MZ9\u00c9", ident("az-bm_mz9\u00c9"))
	check(t, "-Az", ident("-az"))
	check(t, "@AZ\u00c9", at("az\u00c9"))
	check(t, "#AZ\u00c9aZ", hash("AZ\u00c9aZ"))
	check(t, "5AZ\u00c9\u212a", whole(320, "az\u00c9\u212a"))
	check(t, "@-Ab", at("-ab"))
	for _, s := range []string{"1", "0a", "-", "--", "-1", "--a", "9"} {
		check(t, "#"+s, hash(s))
		check(t, "a"+s, ident("a"+s))
		check(t, "@"+s, append([]csstok.Token{sign("@")}, csstok.Tokens([]rune(s))...)...)
	}
	check(t, "-", sign("-"))
	check(t, "--", sign("-"), sign("-"))
	check(t, "--a", sign("-"), ident("-a"))
	check(t, "---a", sign("-"), sign("-"), ident("-a"))
	check(t, "#--a-", hash("--a-"))
	check(t, "+a", sign("+"), ident("a"))
	check(t, "##a#", sign("#"), hash("a"), sign("#"))
	check(t, "@@a@", sign("@"), at("a"), sign("@"))
	check(t, "#@a", sign("#"), at("a"))
	check(t, "# a @ b", sign("#"), blank(), ident("a"), blank(), sign("@"), blank(), ident("b"))
	check(t, "a.b:c", ident("a"), sign("."), ident("b"), sign(":"), ident("c"))
}

func TestSigns(t *testing.T) {
	for r := rune(0); r < 128; r++ {
		s := string(r)
		switch {
		case strings.Contains("\t\n\f ", s):
			check(t, s, blank())
		case strings.Contains("0123456789", s):
			check(t, s, whole(64*int64(r-'0'), ""))
		case 'a' <= r && r <= 'z' || r == '_':
			check(t, s, ident(s))
		case 'A' <= r && r <= 'Z':
			check(t, s, ident(string(r+32)))
		case r == '"' || r == '\'':
			check(t, s, quoted(""))
		default:
			check(t, s, sign(s))
			if r != '-' {
				check(t, "a"+s, ident("a"), sign(s))
			}
		}
	}
}

func TestNumbers(t *testing.T) {
	for _, c := range []struct {
		s string
		n int64
	}{{"0", 0}, {"00", 0}, {"7", 448}, {"007", 448}, {"1234567890", 64 * 1234567890}} {
		check(t, c.s, whole(c.n, ""))
		check(t, "+"+c.s, whole(c.n, ""))
		check(t, "-"+c.s, whole(-c.n, ""))
		check(t, c.s+".0", number(c.n, ""))
		check(t, c.s+".5", number(c.n+32, ""))
		check(t, "+"+c.s+".5", number(c.n+32, ""))
		check(t, "-"+c.s+".5", number(-c.n-32, ""))
		check(t, c.s+".", whole(c.n, ""), sign("."))
		check(t, c.s+".px", whole(c.n, ""), sign("."), ident("px"))
		check(t, c.s+". 5", whole(c.n, ""), sign("."), blank(), whole(320, ""))
	}
	check(t, ".5", number(32, ""))
	check(t, "+.5", number(32, ""))
	check(t, "-.5", number(-32, ""))
	check(t, ".", sign("."))
	check(t, "+.", sign("+"), sign("."))
	check(t, "-.a", sign("-"), sign("."), ident("a"))
	check(t, "..5", sign("."), number(32, ""))
	check(t, "1..5", whole(64, ""), sign("."), number(32, ""))
	check(t, "1.5.5", number(96, ""), number(32, ""))
	check(t, "1+2-3", whole(64, ""), whole(128, ""), whole(-192, ""))
	check(t, "+-1", sign("+"), whole(-64, ""))
	check(t, "-+1", sign("-"), whole(64, ""))
	check(t, "- 1", sign("-"), blank(), whole(64, ""))
	check(t, "+", sign("+"))
	check(t, "-0.0", number(0, ""))
	check(t, "\u0663", ident("\u0663"))
}

func TestUnits(t *testing.T) {
	for _, c := range []struct{ s, unit string }{{"px", "px"}, {"PX", "px"}, {"%", "%"}, {"e5", "e5"}, {"E-5", "e-5"}, {"-a", "-a"}, {"_", "_"}, {"\u00c9", "\u00c9"}, {"a1-", "a1-"}} {
		check(t, "1"+c.s, whole(64, c.unit))
		check(t, "-1.5"+c.s, number(-96, c.unit))
		check(t, "1"+c.s+"%", whole(64, c.unit), sign("%"))
		check(t, "1 "+c.s+" ", slices.Concat([]csstok.Token{whole(64, ""), blank()}, csstok.Tokens([]rune(c.s)), []csstok.Token{blank()})...)
	}
	check(t, "1%a", whole(64, "%"), ident("a"))
	check(t, "1-", whole(64, ""), sign("-"))
	check(t, "1--a", whole(64, ""), sign("-"), ident("-a"))
	check(t, "1-1", whole(64, ""), whole(-64, ""))
	check(t, "1#a", whole(64, ""), hash("a"))
	check(t, "%1", sign("%"), whole(64, ""))
}

func TestEach64th(t *testing.T) {
	for n := range int64(64) {
		at := fmt.Sprintf(".%06d", 15625*n)
		below := fmt.Sprintf(".%06d", max(0, 15625*n-1))
		for _, zeros := range []string{"", "0", "000000000000000000000000"} {
			check(t, at+zeros, number(n, ""))
			check(t, "-3"+at+zeros+"px", number(-192-n, "px"))
			check(t, at+zeros+"1", number(n, ""))
			if n > 0 {
				check(t, below+strings.ReplaceAll(zeros, "0", "9"), number(n-1, ""))
				check(t, "-"+below+strings.ReplaceAll(zeros, "0", "9"), number(1-n, ""))
			}
		}
	}
	check(t, ".9999999999999999999999", number(63, ""))
	check(t, ".1", number(6, ""))
	check(t, ".01", number(0, ""))
	check(t, ".02", number(1, ""))
}

func TestRails(t *testing.T) {
	for _, c := range []struct {
		s     string
		units int64
	}{
		{"1099511627775", api.Rail - 64},
		{"1099511627776", api.Rail},
		{"1099511627777", api.Rail},
		{"10995116277760", api.Rail},
		{"1099511627776000000000", api.Rail},
		{"0000000000000000000000001099511627775", api.Rail - 64},
		{"70368744177664", api.Rail},
		{"144115188075855872", api.Rail},
		{"288230376151711744", api.Rail},
		{"9223372036854775807", api.Rail},
		{"9223372036854775808", api.Rail},
		{"18446744073709551616", api.Rail},
		{"18446744073709551617", api.Rail},
		{strings.Repeat("9", 500), api.Rail},
		{"1" + strings.Repeat("0", 500), api.Rail},
	} {
		check(t, c.s, whole(c.units, ""))
		check(t, "-"+c.s+"px", whole(-c.units, "px"))
		check(t, c.s+".0", number(c.units, ""))
	}
	check(t, "1099511627775.984375", number(api.Rail-1, ""))
	check(t, "1099511627775.999999", number(api.Rail-1, ""))
	check(t, "-1099511627775.999999", number(1-api.Rail, ""))
	check(t, "1099511627776.5", number(api.Rail, ""))
	check(t, "-1099511627776.5", number(-api.Rail, ""))
	check(t, "."+strings.Repeat("0", 500)+"9", number(0, ""))
}

func TestStrings(t *testing.T) {
	for _, q := range []string{"'", `"`} {
		other := map[string]string{"'": `"`, `"`: "'"}[q]
		for _, c := range []struct{ s, want string }{
			{"", ""}, {"a", "a"}, {"Ab C", "Ab C"}, {other, other}, {"/*", "/*"}, {"\t\f\r\v", "\t\f\r\v"}, {"\u00e9" + bad, "\u00e9" + bad},
			{`\` + q, q}, {`\\`, `\`}, {`\a`, "a"}, {`\` + other, other}, {"\\\n", "\n"}, {`\\\` + q, `\` + q}, {`\41 `, "41 "}, {`a\\`, `a\`}, {`\u00e9\` + "\u00e9", "u00e9\u00e9"},
		} {
			check(t, q+c.s+q, quoted(c.want))
			check(t, q+c.s, quoted(c.want))
			check(t, q+c.s+"\n", quoted(c.want), blank())
			check(t, q+c.s+q+"b", quoted(c.want), ident("b"))
			check(t, q+c.s+"\nb"+q, quoted(c.want), blank(), ident("b"), quoted(""))
			check(t, q+c.s+`\`, quoted(c.want+`\`))
			check(t, q+c.s+q+`\`, quoted(c.want), sign(`\`))
		}
	}
	check(t, "'a''b'", quoted("a"), quoted("b"))
	check(t, `\'a\'`, sign(`\`), quoted("a'"))
	check(t, "'a\n'b", quoted("a"), blank(), quoted("b"))
	check(t, `\a\`, sign(`\`), ident("a"), sign(`\`))
}

// P8.2, by hand

func checkText(t *testing.T, want string, l ...csstok.Token) {
	t.Helper()
	if got := csstok.Text(l); got != want {
		t.Errorf("P8.2: Text(%+v): %q, want %q", l, got, want)
	}
}

func TestTextOfEachKind(t *testing.T) {
	checkText(t, "a-B", ident("a-B"))
	checkText(t, "#1A", hash("1A"))
	checkText(t, "@Media", at("Media"))
	checkText(t, "{", sign("{"))
	checkText(t, `""`, quoted(""))
	checkText(t, `"a'b/*"`, quoted("a'b/*"))
	checkText(t, "\"\\\"\\\\\\\n\t\r\"", quoted("\"\\\n\t\r"))
	checkText(t, "\"\u00e9\u4e2d\U0001f600\"", quoted("\u00e9\u4e2d\U0001f600"))
	checkText(t, "1.015625", number(65, ""))
	checkText(t, "a #b @c 1px \"d\" ;", ident("a"), hash("b"), at("c"), whole(64, "px"), quoted("d"), sign(";"))
	checkText(t, "a b", blank(), ident("a"), blank(), blank(), ident("b"), blank())
	checkText(t, "a", blank(), ident("a"))
	checkText(t, "a", ident("a"), blank())
}

func TestTextOfNumbers(t *testing.T) {
	for n := int64(-200); n <= 200; n++ {
		for _, unit := range []string{"", "px", "%"} {
			checkText(t, plainText([]csstok.Token{number(n, unit)}), number(n, unit))
			checkText(t, plainText([]csstok.Token{whole(n, unit)}), whole(n, unit))
		}
	}
	checkText(t, "0", whole(0, ""))
	checkText(t, "0.000000", number(0, ""))
	checkText(t, "-0.015625px", number(-1, "px"))
	checkText(t, "0.984375%", number(63, "%"))
	checkText(t, "-1.000000", number(-64, ""))
	checkText(t, "1099511627776", whole(api.Rail, ""))
	checkText(t, "-1099511627776.000000e", number(-api.Rail, "e"))
	checkText(t, "1099511627775.984375", number(api.Rail-1, ""))
	checkText(t, "144115188075855871.984375", number(math.MaxInt64, ""))
	checkText(t, "-144115188075855872.000000", number(math.MinInt64, ""))
	checkText(t, "-144115188075855872", whole(math.MinInt64, ""))
}

// Tokens that nobody cut, too, are written and do no harm.
func TestTextOfOthers(t *testing.T) {
	checkText(t, "a  b", ident("a"), ident(""), ident("b"))
	checkText(t, " b", ident(""), ident("b"))
	checkText(t, "\"\xff\\\"\"", quoted("\xff\""))
	for _, kind := range []int{0, -1, 8, math.MinInt, math.MaxInt} {
		checkText(t, "a  b", ident("a"), csstok.Token{Kind: kind, Text: "x", N: 5, Unit: "px"}, ident("b"))
	}
}

// P8.1 to P8.3, against the plain ones

func checkPlain(t *testing.T, s string) {
	t.Helper()
	got, want := csstok.Tokens([]rune(s)), plainTokens(s)
	if !slices.Equal(got, want) {
		t.Fatalf("P8.1: Tokens(%q): %+v, want %+v", s, got, want)
	}
	text := csstok.Text(got)
	if want := plainText(got); text != want {
		t.Fatalf("P8.2: Text of the tokens of %q: %q, want %q", s, text, want)
	}
	again := withoutBlanks(csstok.Tokens([]rune(text)))
	if !slices.Equal(again, withoutBlanks(got)) {
		t.Fatalf("P8.3: %q, written %q: %+v, want %+v", s, text, again, withoutBlanks(got))
	}
}

// lists calls f with every list of n of those pieces, joined.
func lists(n int, of []string, ahead string, f func(s string)) {
	if n == 0 {
		f(ahead)
		return
	}
	for _, piece := range of {
		lists(n-1, of, ahead+piece, f)
	}
}

func TestAgainstPlain(t *testing.T) {
	pieces := []string{"a", "Z", "_", "-", "+", ".", "0", "7", "%", "#", "@", `"`, "'", `\`, "\n", " ", "/", "*", "{", "\u00e9"}
	for n := range 4 {
		lists(n, pieces, "", func(s string) { checkPlain(t, s) })
	}
	for _, few := range [][]string{
		{"a", "-", "+", ".", "1", "%", " "},
		{"a", "1", "-", "#", "@", "/", "*"},
		{"/", "*", " ", "\n", "a", "'", `\`},
		{"'", `"`, `\`, "\n", "a", " "},
	} {
		for n := range 6 {
			lists(n, few, "", func(s string) { checkPlain(t, s) })
		}
	}
}

func TestDrawn(t *testing.T) {
	r := rand.New(rand.NewSource(8))
	pieces := []string{"a", "Z", "-", "+", ".", "1", "0", "23", "015625", "99", "1099511627775", "px", "%", "#", "@", `"`, "'", `\`, "\n", " ", "\t", "\f", "\r", "\v", "\x00", "\x7f", "/*", "*/", "/", "*", "{", "}", ":", ";", "!", "(", "_", "e", "\u0080", "\u00c9", bad, "\U0010ffff"}
	for range 30000 {
		var s strings.Builder
		for range r.Intn(30) {
			s.WriteString(pieces[r.Intn(len(pieces))])
		}
		checkPlain(t, s.String())
	}
	for range 3000 {
		checkPlain(t, fmt.Sprintf("%d.%0*d", r.Int63()>>r.Intn(63), 1+r.Intn(12), r.Int63()>>r.Intn(63)))
	}
}

func TestEachRune(t *testing.T) {
	for r := rune(0); r <= utf8.MaxRune; r++ {
		if utf8.ValidRune(r) && (r < 0x3100 || r%97 == 0 || r > 0x10ff00) {
			checkPlain(t, "#"+string(r)+" 1"+string(r)+"'"+string(r)+"'")
		}
	}
}

// R1, R2, R4, R5

func TestRunesOfNoText(t *testing.T) {
	for _, r := range []rune{0xd800, 0xdfff, 0x110000, math.MaxInt32} {
		if got := csstok.Tokens([]rune{'a', r, '1'}); !slices.Equal(got, []csstok.Token{ident("a" + bad + "1")}) {
			t.Errorf("P8.1: rune %d in a name: %+v", r, got)
		}
	}
	for _, r := range []rune{-1, -'a', math.MinInt32} {
		if got := csstok.Tokens([]rune{'a', r, '1'}); !slices.Equal(got, []csstok.Token{ident("a"), sign(bad), whole(64, "")}) {
			t.Errorf("P8.1: rune %d behind a name: %+v", r, got)
		}
		if got := csstok.Tokens([]rune{'"', r, '\\', r}); !slices.Equal(got, []csstok.Token{quoted(bad + bad)}) {
			t.Errorf("P8.1: rune %d in a string: %+v", r, got)
		}
	}
}

func TestWhatIsHandedInStays(t *testing.T) {
	text := []rune("Ab/**/ #c @D -1.5PX 'x\\")
	l := append(slices.Clone(text), []rune("'*/yz%1")...)
	before := slices.Clone(l)
	got := csstok.Tokens(l[:len(text)])
	if !slices.Equal(l, before) {
		t.Errorf("R2: handed in: %q, then %q", string(before), string(l))
	}
	clear(l)
	if want := csstok.Tokens(slices.Clip(text)); !slices.Equal(got, want) {
		t.Errorf("R5: with spare room: %+v, want %+v", got, want)
	}
	tokens := append(slices.Clone(got), sign("spare"))
	kept := slices.Clone(tokens)
	s := csstok.Text(tokens[:len(got)])
	if !slices.Equal(tokens, kept) {
		t.Errorf("R2: Text changed what was handed in: %+v", tokens)
	}
	if want := plainText(got); s != want {
		t.Errorf("R5: Text with spare room: %q, want %q", s, want)
	}
}

func TestAnswersAreApart(t *testing.T) {
	text := []rune("a #b 1px 'c'")
	want := csstok.Tokens(text)
	got := csstok.Tokens(text)
	clear(got[:cap(got)])
	if again := csstok.Tokens(text); !slices.Equal(again, want) {
		t.Errorf("R4: another answer the second time: %+v", again)
	}
}

// A text that is all beginnings must not take a step for each two of its places.
func TestLongTextsEnd(t *testing.T) {
	for _, part := range []string{"/*", "/", "*", "'", `"`, `\`, "#", "@", "-", "+", ".", "1", "1.", "-1", "a", " ", " /**/", "%", "@-", "#-", "'\n", "{", "\u00e9"} {
		for _, ahead := range []string{"", "/*", "'", "1", "1.", "a", "#"} {
			csstok.Text(csstok.Tokens([]rune(ahead + strings.Repeat(part, api.MaxSource/len(part)))))
		}
	}
}
