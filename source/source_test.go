package source_test

import (
	"bytes"
	"fmt"
	"math"
	"slices"
	"strings"
	"testing"
	"unicode/utf8"

	"casement/api"
	"casement/source"
)

const bad = "\ufffd"

// plainDecode goes in the steps that the promise names, one behind the other.
func plainDecode(b []byte) []rune {
	var s strings.Builder
	for i := 0; i < len(b); {
		n := wellFormed(b[i:])
		if n == 0 {
			s.WriteString(bad)
			n = 1
		} else {
			s.Write(b[i : i+n])
		}
		i += n
	}
	text := strings.ReplaceAll(s.String(), "\r\n", "\n")
	text = strings.ReplaceAll(text, "\r", "\n")
	return []rune(strings.ReplaceAll(text, "\x00", bad))
}

// wellFormed is the length of the sequence with which b begins; 0, if it begins with none.
func wellFormed(b []byte) int {
	for n := 1; n <= utf8.UTFMax && n <= len(b); n++ {
		if utf8.Valid(b[:n]) {
			return n
		}
	}
	return 0
}

func checkDecode(t *testing.T, b []byte) {
	t.Helper()
	got, why := source.Decode(b)
	if want := plainDecode(b); why != api.OK || !slices.Equal(got, want) {
		t.Errorf("P3.1: Decode(%q): %q, %v, want %q", b, string(got), why, string(want))
	}
}

func TestRunsAndExamples(t *testing.T) {
	got, why := source.Decode([]byte{'a', 13, 10, 'b', 13, 'c', 0, 0xff})
	if want := []rune{'a', 10, 'b', 10, 'c', 0xfffd, 0xfffd}; why != api.OK || !slices.Equal(got, want) {
		t.Errorf("P3.1: %v, %v", got, why)
	}
	if got, why := source.Decode(nil); len(got) != 0 || why != api.OK {
		t.Errorf("P3.1: of nothing: %v, %v", got, why)
	}
	if got, _ := source.Decode([]byte{13, 13, 10}); !slices.Equal(got, []rune{10, 10}) {
		t.Errorf("P3.1: 13 13 10: %v", got)
	}
	c := source.New([]int{5, 6})
	checkStep(t, "Next", c.Next, 5, true)
	checkPeek(t, c, 0, 6, true)
	checkPeek(t, c, 1, 0, false)
	checkStep(t, "Next", c.Next, 6, true)
	checkStep(t, "Next", c.Next, 0, false)
	if n := source.New([]int{}).Left(); n != 0 {
		t.Errorf("P3.2: Left of an empty one: %d", n)
	}
}

// P3.1

func TestDecodeByHand(t *testing.T) {
	l := []struct{ b, want string }{
		{"", ""},
		{"plain <b>", "plain <b>"},
		{"\t\n\v\f \x01\x7f", "\t\n\v\f \x01\x7f"},
		{"\r\n", "\n"},
		{"\r", "\n"},
		{"\n", "\n"},
		{"\n\r", "\n\n"},
		{"\r\n\r\n", "\n\n"},
		{"\r\r\n\n", "\n\n\n"},
		{"\r\n\n", "\n\n"},
		{"\ra\n", "\na\n"},
		{"\r\x00\n", "\n" + bad + "\n"},
		{"\r\xff\n", "\n" + bad + "\n"},
		{"\x00\x00", bad + bad},
		{"\u0080\u07ff\u0800\uffff\U00010000\U0010ffff", "\u0080\u07ff\u0800\uffff\U00010000\U0010ffff"},
		{"\ud7ff\ue000\u0085\u2028\ufeff", "\ud7ff\ue000\u0085\u2028\ufeff"},
		{bad, bad},
		{"\x80", bad},
		{"a\xbfb", "a" + bad + "b"},
		{"\xc3", bad},
		{"\xc3a", bad + "a"},
		{"\xc3\r\n", bad + "\n"},
		{"\xe2\x82", bad + bad},
		{"\xe2\x82\xe2\x82\xac", bad + bad + "\u20ac"},
		{"\xf0\x9f\x98", bad + bad + bad},
		{"\xc0\x80", bad + bad},
		{"\xc1\xbf", bad + bad},
		{"\xe0\x9f\xbf", bad + bad + bad},
		{"\xf0\x8f\xbf\xbf", bad + bad + bad + bad},
		{"\xed\xa0\x80", bad + bad + bad},
		{"\xed\xbf\xbf", bad + bad + bad},
		{"\xf4\x90\x80\x80", bad + bad + bad + bad},
		{"\xf5\x80\x80\x80", bad + bad + bad + bad},
		{"\xfe\xff", bad + bad},
	}
	for _, c := range l {
		got, why := source.Decode([]byte(c.b))
		if string(got) != c.want || why != api.OK {
			t.Errorf("P3.1: Decode(%q): %q, %v, want %q", c.b, string(got), why, c.want)
		}
		checkDecode(t, []byte(c.b))
	}
}

func TestDecodeOfEachRune(t *testing.T) {
	for r := rune(1); r <= utf8.MaxRune; r++ {
		if !utf8.ValidRune(r) || r == '\r' {
			continue
		}
		got, why := source.Decode(utf8.AppendRune(nil, r))
		if len(got) != 1 || got[0] != r || why != api.OK {
			t.Fatalf("P3.1: %U: %U, %v", r, got, why)
		}
	}
}

// Those bytes stand on both sides of the bounds that UTF-8 draws, and of what Decode makes another.
func edgeBytes() []byte {
	return []byte{0, 1, 9, 10, 13, 'a', 0x7f, 0x80, 0x8f, 0x90, 0x9f, 0xa0, 0xbf, 0xc0, 0xc1, 0xc2, 0xdf, 0xe0, 0xe1, 0xed, 0xef, 0xf0, 0xf1, 0xf4, 0xf5, 0xff}
}

func TestDecodeOfEachPairOfBytes(t *testing.T) {
	for i := range 256 {
		checkDecode(t, []byte{byte(i)})
		for k := range 256 {
			checkDecode(t, []byte{byte(i), byte(k)})
		}
	}
}

func TestDecodeOfFourBytes(t *testing.T) {
	l := edgeBytes()
	for _, a := range l {
		for _, b := range l {
			for _, c := range l {
				for _, d := range l {
					checkDecode(t, []byte{a, b, c, d})
				}
			}
			if t.Failed() {
				return
			}
		}
	}
}

func TestDecodeOfLongLists(t *testing.T) {
	l := edgeBytes()
	at := uint32(1)
	for n := range 300 {
		b := make([]byte, n)
		for i := range b {
			at = at*1664525 + 1013904223
			b[i] = l[int(at>>16)%len(l)]
		}
		checkDecode(t, b)
	}
}

func TestDecodeBound(t *testing.T) {
	for _, piece := range []string{"a", "\r\n", "\u20ac", "\U0001f600", "\xff", "\x00"} {
		b := bytes.Repeat([]byte(piece), api.MaxSource/len(piece)+4)
		got, why := source.Decode(b[:api.MaxSource])
		if why != api.OK || !slices.Equal(got, plainDecode(b[:api.MaxSource])) {
			t.Errorf("P3.1: MaxSource bytes of %q: %d runes, %v", piece, len(got), why)
		}
		for _, more := range []int{1, 2, 3} {
			got, why := source.Decode(b[:api.MaxSource+more])
			if why != api.ErrLong || len(got) != 0 {
				t.Errorf("P3.1: MaxSource + %d bytes of %q: %d runes, %v", more, piece, len(got), why)
			}
		}
	}
	if got, why := source.Decode(make([]byte, 8*api.MaxSource)); why != api.ErrLong || len(got) != 0 {
		t.Errorf("P3.1: 8 MaxSource bytes: %d runes, %v", len(got), why)
	}
}

func TestDecodeOfNilAndEmpty(t *testing.T) {
	for _, b := range [][]byte{nil, {}, make([]byte, 0, 9)} {
		if got, why := source.Decode(b); len(got) != 0 || why != api.OK {
			t.Errorf("P3.1: %d runes, %v", len(got), why)
		}
	}
}

// R2, R5: neither what is handed in nor the room behind it is changed, and that room is not read.
func TestDecodeLeavesItsArgument(t *testing.T) {
	for _, s := range []string{"a\r|\nb", "\xe2\x82|\xac", "\x00\xff|x", "|\r\n"} {
		ahead, behind, _ := strings.Cut(s, "|")
		room := []byte(ahead + behind)
		got, why := source.Decode(room[:len(ahead)])
		if why != api.OK || !slices.Equal(got, plainDecode([]byte(ahead))) {
			t.Errorf("R5: %q: %q, %v", ahead, string(got), why)
		}
		if string(room) != ahead+behind {
			t.Errorf("R2: %q became %q", ahead+behind, room)
		}
	}
}

// R2: an answer is new memory, its spare room too.
func TestDecodeAnswersNewMemory(t *testing.T) {
	b := []byte("a\r\n\u20acb")
	first, _ := source.Decode(b)
	second, _ := source.Decode(b)
	for i := range first[:cap(first)] {
		first[:cap(first)][i] = 'x'
	}
	for i := range b {
		b[i] = 'y'
	}
	if string(second) != "a\n\u20acb" {
		t.Errorf("R2: %q", string(second))
	}
}

// P3.2

func checkStep[T comparable](t *testing.T, call string, step func() (T, bool), want T, there bool) {
	t.Helper()
	if got, ok := step(); got != want || ok != there {
		t.Errorf("P3.2: %s: %v, %v, want %v, %v", call, got, ok, want, there)
	}
}

func checkPeek[T comparable](t *testing.T, c *source.Cursor[T], k int, want T, there bool) {
	t.Helper()
	checkStep(t, fmt.Sprintf("Peek(%d)", k), func() (T, bool) { return c.Peek(k) }, want, there)
}

// checkStand holds c against l, in which it is said to stand at the number at.
func checkStand[T comparable](t *testing.T, c *source.Cursor[T], l []T, at int) {
	t.Helper()
	var zero T
	for k := range len(l) + 3 {
		if at+k < len(l) {
			checkPeek(t, c, k, l[at+k], true)
		} else {
			checkPeek(t, c, k, zero, false)
		}
		checkPeek(t, c, -1-k, zero, false)
	}
	for _, k := range []int{math.MinInt, math.MinInt + 1, math.MaxInt - at, math.MaxInt - 1, math.MaxInt} {
		checkPeek(t, c, k, zero, false)
	}
	if c.At() != at || c.Left() != len(l)-at {
		t.Errorf("P3.2: At %d, Left %d, want %d, %d", c.At(), c.Left(), at, len(l)-at)
	}
}

// checkCursor goes through a Cursor of l, and past its end.
func checkCursor[T comparable](t *testing.T, l []T) {
	t.Helper()
	var zero T
	c := source.New(l)
	for at, x := range l {
		checkStand(t, c, l, at)
		checkStep(t, "Next", c.Next, x, true)
	}
	for range 3 {
		checkStand(t, c, l, len(l))
		checkStep(t, "Next", c.Next, zero, false)
	}
}

func TestCursorOfManyKinds(t *testing.T) {
	for n := range 9 {
		numbers := make([]int, n)
		for i := range numbers {
			numbers[i] = i + 1
		}
		checkCursor(t, numbers)
	}
	checkCursor(t, []int{0, 0, 0})
	checkCursor(t, []rune("a<\u20ac"))
	checkCursor(t, []string{"five", "", "six"})
	checkCursor(t, []api.Rect{{X: 1}, {}, {H: 2}})
	checkCursor(t, []*int{nil, new(int)})
	checkCursor(t, []any{1, nil, "b"})
	checkCursor(t, []struct{}{{}, {}})
	checkCursor[rune](t, nil)
	checkCursor(t, []rune{})
}

func TestCursorOfManyNumbers(t *testing.T) {
	l := make([]int, api.MaxSource)
	for i := range l {
		l[i] = i * i
	}
	c := source.New(l)
	checkPeek(t, c, len(l)-1, l[len(l)-1], true)
	for at, x := range l {
		if got, ok := c.Next(); got != x || !ok || c.At() != at+1 || c.Left() != len(l)-at-1 {
			t.Fatalf("P3.2: at %d: %v, %v", at, got, ok)
		}
	}
}

func TestCursorCopies(t *testing.T) {
	l := []int{1, 2, 3, 4, 5}
	c := source.New(l[:3])
	l[0], l[1], l[2], l[3] = 7, 7, 7, 7
	checkStand(t, c, []int{1, 2, 3}, 0)
	c.Next()
	l[1] = 8
	checkStand(t, c, []int{1, 2, 3}, 1)
}

func TestCursorLeavesItsArgument(t *testing.T) {
	l := []int{1, 2, 3, 4, 5}
	c := source.New(l[:3])
	for range 4 {
		c.Peek(1)
		c.Next()
	}
	if !slices.Equal(l, []int{1, 2, 3, 4, 5}) {
		t.Errorf("R2: %v", l)
	}
}

func TestCursorsOfOneListGoAlone(t *testing.T) {
	l := []int{1, 2, 3}
	a, b := source.New(l), source.New(l)
	a.Next()
	a.Next()
	checkStand(t, a, l, 2)
	checkStand(t, b, l, 0)
	b.Next()
	checkStand(t, a, l, 2)
	checkStand(t, b, l, 1)
}
