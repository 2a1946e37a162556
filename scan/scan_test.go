package scan_test

import (
	"strings"
	"testing"

	"casement/scan"
	"casement/source"
)

func cursor(s string) *source.Cursor[rune] { return source.New([]rune(s)) }

// rest is what is ahead of c.
func rest(c *source.Cursor[rune]) string {
	return scan.Take(c, func(rune) bool { return false })
}

func TestFollows(t *testing.T) {
	for _, c := range []struct {
		s, text string
		want    bool
	}{{"", "", true}, {"a", "", true}, {"", "a", false}, {"ab", "a", true}, {"ab", "ab", true}, {"ab", "abc", false}, {"ab", "b", false}, {"ab", "ac", false}, {"\u00e4b", "b", false}} {
		runes := cursor(c.s)
		if got := scan.Follows(runes, c.text); got != c.want {
			t.Errorf("Follows(%q, %q): %v", c.s, c.text, got)
		}
		if runes.At() != 0 {
			t.Errorf("Follows(%q, %q) goes to %d", c.s, c.text, runes.At())
		}
	}
}

func TestOver(t *testing.T) {
	for n, want := range []string{"\u00e4bc", "bc", "c", "", ""} {
		c := cursor("\u00e4bc")
		scan.Over(c, n)
		if got := rest(c); got != want {
			t.Errorf("Over(%d): then %q, want %q", n, got, want)
		}
	}
}

func TestBehind(t *testing.T) {
	for _, c := range []struct{ s, text, want string }{{"", "*/", ""}, {"a*/b*/", "*/", "b*/"}, {"**/b", "*/", "b"}, {"*/", "*/", ""}, {"a* /", "*/", ""}, {"a*", "*/", ""}, {"-->", "-->", ""}, {"--->x", "-->", "x"}} {
		runes := cursor(c.s)
		scan.Behind(runes, c.text)
		if got := rest(runes); got != c.want {
			t.Errorf("Behind(%q, %q): then %q, want %q", c.s, c.text, got, c.want)
		}
	}
}

func TestTake(t *testing.T) {
	for _, c := range []struct{ s, want, behind string }{{"", "", ""}, {"ab", "ab", ""}, {"\u00e4b>c>", "\u00e4b", ">c>"}, {">", "", ">"}} {
		runes := cursor(c.s)
		got := scan.Take(runes, func(r rune) bool { return r == '>' })
		if behind := rest(runes); got != c.want || behind != c.behind {
			t.Errorf("Take of %q: %q, then %q, want %q, %q", c.s, got, behind, c.want, c.behind)
		}
	}
	if got := rest(source.New([]rune{'a', -1, 0xd800, 0x110000})); got != "a\ufffd\ufffd\ufffd" {
		t.Errorf("Take of runes that no text has: %q", got)
	}
}

func TestBlanks(t *testing.T) {
	for _, c := range []struct{ s, want string }{{"", ""}, {"a ", "a "}, {" \t\n\fa ", "a "}, {" \r ", "\r "}, {" \u00a0", "\u00a0"}, {"  ", ""}} {
		runes := cursor(c.s)
		scan.Blanks(runes)
		if got := rest(runes); got != c.want {
			t.Errorf("Blanks of %q: then %q, want %q", c.s, got, c.want)
		}
	}
}

func TestRunes(t *testing.T) {
	const letters = "abcdefghijklmnopqrstuvwxyz"
	great := strings.ToUpper(letters)
	for r := rune(-1); r < 0x3000; r++ {
		is := func(set string) bool { return strings.IndexRune(set, r) >= 0 }
		if got := scan.Blank(r); got != is("\t\n\f ") {
			t.Errorf("Blank(%d): %v", r, got)
		}
		if got := scan.Letter(r); got != is(letters+great) {
			t.Errorf("Letter(%d): %v", r, got)
		}
		want := r
		if i := strings.IndexRune(great, r); i >= 0 {
			want = rune(letters[i])
		}
		if got := scan.SmallRune(r); got != want {
			t.Errorf("SmallRune(%d): %d, want %d", r, got, want)
		}
	}
	if got := scan.Small("aZ\u00c9\u212a-1\u017f"); got != "az\u00c9\u212a-1\u017f" {
		t.Errorf("Small: %q", got)
	}
}
