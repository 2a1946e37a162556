package rect_test

import (
	"math"
	"testing"

	"casement/api"
	"casement/rect"
)

const (
	rail  = api.Rail
	least = math.MinInt64
	most  = math.MaxInt64
)

func box(x, y, w, h int64) api.Rect { return api.Rect{X: x, Y: y, W: w, H: h} }

type pair struct {
	call      string
	got, want api.Rect
}

func checkAll(t *testing.T, promise string, l []pair) {
	t.Helper()
	for _, c := range l {
		if c.got != c.want {
			t.Errorf("%s: %s: %v, want %v", promise, c.call, c.got, c.want)
		}
	}
}

// clip is the plain way to bring n between the rails.
func clip(n int64) int64 {
	if n < -rail {
		return -rail
	}
	if n > rail {
		return rail
	}
	return n
}

// edges are the numbers about which the rails lie, and some between and far beyond.
func edges() []int64 {
	return []int64{least, least + 1, -rail - 1, -rail, -rail + 1, -64, -1, 0, 1, 7, 64, rail - 1, rail, rail + 1, most - 1, most}
}

// few are those of edges that a bound may part.
func few() []int64 { return []int64{least, -rail - 1, -rail, -3, 0, 1, rail - 1, rail, most} }

// eachOf calls f with every rectangle whose parts are of l.
func eachOf(l []int64, f func(api.Rect)) {
	for _, x := range l {
		for _, y := range l {
			for _, w := range l {
				for _, h := range l {
					f(box(x, y, w, h))
				}
			}
		}
	}
}

// reach is how far a side reaches: from its beginning to, but without, its end.
type reach struct{ from, to int64 }

func across(r api.Rect) reach { return reach{clip(r.X), clip(clip(r.X) + clip(r.W))} }

func along(r api.Rect) reach { return reach{clip(r.Y), clip(clip(r.Y) + clip(r.H))} }

func (s reach) has(n int64) bool { return s.from <= clip(n) && clip(n) < s.to }

func (s reach) length() int64 { return clip(s.to - s.from) }

func clippedRect(r api.Rect) api.Rect { return box(clip(r.X), clip(r.Y), clip(r.W), clip(r.H)) }

func plainMeet(a, b api.Rect) api.Rect {
	x := reach{max(across(a).from, across(b).from), min(across(a).to, across(b).to)}
	y := reach{max(along(a).from, along(b).from), min(along(a).to, along(b).to)}
	if x.to <= x.from || y.to <= y.from {
		return api.Rect{}
	}
	return box(x.from, y.from, x.length(), y.length())
}

func plainJoin(a, b api.Rect) api.Rect {
	noA, noB := a.W <= 0 || a.H <= 0, b.W <= 0 || b.H <= 0
	if noA && noB {
		return api.Rect{}
	}
	if noA {
		return clippedRect(b)
	}
	if noB {
		return clippedRect(a)
	}
	x := reach{min(across(a).from, across(b).from), max(across(a).to, across(b).to)}
	y := reach{min(along(a).from, along(b).from), max(along(a).to, along(b).to)}
	return box(x.from, y.from, x.length(), y.length())
}

func TestRunsAndExamples(t *testing.T) {
	r := box(3, -4, 5, 6)
	checkAll(t, "runs", []pair{
		{"Meet of two that overlap", rect.Meet(box(0, 0, 10, 10), box(5, 5, 10, 10)), box(5, 5, 5, 5)},
		{"Meet of two apart", rect.Meet(box(0, 0, 10, 10), box(20, 0, 1, 1)), api.Rect{}},
		{"Join of two corners", rect.Join(box(0, 0, 1, 1), box(5, 5, 1, 1)), box(0, 0, 6, 6)},
		{"Inset by four numbers", rect.Inset(box(0, 0, 10, 10), 1, 2, 3, 4), box(4, 1, 4, 6)},
		{"Inset by 9 on all sides", rect.Inset(box(0, 0, 10, 10), 9, 9, 9, 9), box(9, 9, 0, 0)},
		{"Join of an empty one and r", rect.Join(box(9, 9, 0, 7), r), r},
		{"Move by 0", rect.Move(r, 0, 0), r},
	})
	if rect.Has(box(0, 0, 1, 1), 1, 0) {
		t.Error("Has({0, 0, 1, 1}, 1, 0): true")
	}
}

// P2.1

func TestEmpty(t *testing.T) {
	eachOf(edges(), func(r api.Rect) {
		if got, want := rect.Empty(r), r.W <= 0 || r.H <= 0; got != want {
			t.Fatalf("P2.1: Empty(%v): %v", r, got)
		}
	})
}

func TestHasItsFirstEdgesAndNotItsLast(t *testing.T) {
	r := box(-2, 3, 4, 5)
	for x := int64(-4); x < 5; x++ {
		for y := int64(0); y < 11; y++ {
			want := x >= -2 && x < 2 && y >= 3 && y < 8
			if rect.Has(r, x, y) != want {
				t.Errorf("P2.1: Has(%v, %d, %d): %v", r, x, y, !want)
			}
		}
	}
}

func TestHasWithinTheRails(t *testing.T) {
	eachOf(few(), func(r api.Rect) {
		for _, x := range few() {
			for _, y := range few() {
				want := across(r).has(x) && along(r).has(y)
				if got := rect.Has(r, x, y); got != want {
					t.Fatalf("P2.1: Has(%v, %d, %d): %v", r, x, y, got)
				}
				if rect.Empty(r) && want {
					t.Fatalf("P2.1: the empty %v has %d, %d", r, x, y)
				}
			}
		}
	})
}

func TestHasBringsWhatIsHandedInBetweenTheRails(t *testing.T) {
	for _, c := range []struct {
		r    api.Rect
		x, y int64
		want bool
	}{
		{box(-rail, -rail, 1, 1), least, least, true},
		{box(least, least, 1, 1), -rail, -rail, true},
		{box(least, least, 1, 1), -rail + 1, -rail, false},
		{box(0, 0, most, most), rail - 1, rail - 1, true},
		{box(0, 0, most, most), rail, 0, false},
		{box(0, 0, most, most), 0, most, false},
		{box(10, 0, rail, 1), rail - 1, 0, true},
		{box(10, 0, rail, 1), rail, 0, false},
		{box(rail, 0, 1, 1), rail, 0, false},
		{box(-10, 0, most, 1), rail - 10, 0, false},
		{box(-10, 0, most, 1), rail - 11, 0, true},
	} {
		if got := rect.Has(c.r, c.x, c.y); got != c.want {
			t.Errorf("P2.1: Has(%v, %d, %d): %v", c.r, c.x, c.y, got)
		}
	}
}

// P2.2

func TestMeet(t *testing.T) {
	checkAll(t, "P2.2", []pair{
		{"one within the other", rect.Meet(box(0, 0, 10, 10), box(2, 3, 4, 5)), box(2, 3, 4, 5)},
		{"the corners at left and below", rect.Meet(box(0, 0, 10, 10), box(-5, 8, 10, 10)), box(0, 8, 5, 2)},
		{"side by side", rect.Meet(box(0, 0, 10, 10), box(10, 0, 5, 5)), api.Rect{}},
		{"one below the other", rect.Meet(box(0, 0, 10, 10), box(0, 10, 5, 5)), api.Rect{}},
		{"apart along Y alone", rect.Meet(box(3, 3, 10, 10), box(3, 30, 10, 10)), api.Rect{}},
		{"an empty one inside", rect.Meet(box(0, 0, 10, 10), box(5, 5, 0, 3)), api.Rect{}},
		{"a side below 0", rect.Meet(box(0, 0, 10, 10), box(5, 5, 3, -3)), api.Rect{}},
		{"two empty ones", rect.Meet(box(5, 5, -1, 0), box(5, 5, 0, -1)), api.Rect{}},
		{"all there is", rect.Meet(box(least, least, most, most), box(least, least, most, most)), box(-rail, -rail, rail, rail)},
		{"parts past the rails", rect.Meet(box(0, 0, most, most), box(5, 6, most, 7)), box(5, 6, rail-5, 7)},
		{"at the rail", rect.Meet(box(rail, 0, 5, 5), box(rail, 0, 5, 5)), api.Rect{}},
		{"with itself past the rail", rect.Meet(box(10, 10, rail, rail), box(10, 10, rail, rail)), box(10, 10, rail-10, rail-10)},
	})
}

func TestJoin(t *testing.T) {
	checkAll(t, "P2.2", []pair{
		{"one within the other", rect.Join(box(0, 0, 10, 10), box(2, 3, 4, 5)), box(0, 0, 10, 10)},
		{"right and above", rect.Join(box(0, 0, 10, 10), box(20, -5, 1, 2)), box(0, -5, 21, 15)},
		{"an empty one far away", rect.Join(box(0, 0, 10, 10), box(99, 99, 0, 3)), box(0, 0, 10, 10)},
		{"an empty one first", rect.Join(box(-99, 0, 7, -1), box(0, 0, 10, 10)), box(0, 0, 10, 10)},
		{"the zero Rect and one", rect.Join(api.Rect{}, box(5, 5, 1, 1)), box(5, 5, 1, 1)},
		{"one and the zero Rect", rect.Join(box(5, 5, 1, 1), api.Rect{}), box(5, 5, 1, 1)},
		{"two empty ones", rect.Join(box(3, 3, 0, 5), box(4, 4, 5, -1)), api.Rect{}},
		{"an empty one and one past the rails", rect.Join(box(1, 1, 0, 0), box(most, least, most, rail+1)), box(rail, -rail, rail, rail)},
		{"one past the rails and an empty one", rect.Join(box(rail+1, 0, 1, 1), box(1, 1, 0, 0)), box(rail, 0, 1, 1)},
		{"as wide as can be", rect.Join(box(-rail, 0, 1, 1), box(rail-1, 0, 1, 1)), box(-rail, 0, rail, 1)},
		{"right edges past the rails", rect.Join(box(10, 10, rail, 1), box(20, 5, 1, most)), box(10, 5, rail-10, rail-5)},
	})
}

func TestMeetAndJoinAreThePlainOnes(t *testing.T) {
	check := func(a, b api.Rect) {
		if got, want := rect.Meet(a, b), plainMeet(a, b); got != want {
			t.Fatalf("P2.2: Meet(%v, %v): %v, want %v", a, b, got, want)
		}
		if got, want := rect.Join(a, b), plainJoin(a, b); got != want {
			t.Fatalf("P2.2: Join(%v, %v): %v, want %v", a, b, got, want)
		}
	}
	eachOf(few(), func(a api.Rect) {
		// Both along one axis at the rails, then each along the other one.
		for _, from := range few() {
			for _, length := range few() {
				check(a, box(from, 2, length, 9))
				check(box(2, from, 9, length), a)
			}
		}
	})
	eachOf([]int64{-2, 0, 1, 3}, func(a api.Rect) {
		eachOf([]int64{-2, 0, 1, 3}, func(b api.Rect) { check(a, b) })
	})
}

// P2.3

func TestMove(t *testing.T) {
	checkAll(t, "P2.3", []pair{
		{"right and up", rect.Move(box(1, 2, 3, 4), 10, -20), box(11, -18, 3, 4)},
		{"to the rails", rect.Move(box(rail-1, 1-rail, 3, 4), 5, -5), box(rail, -rail, 3, 4)},
		{"by numbers past the rails", rect.Move(box(-5, 5, 3, 4), most, least), box(rail-5, 5-rail, 3, 4)},
		{"parts past the rails", rect.Move(box(most, least, most, least), -1, 1), box(rail-1, 1-rail, rail, -rail)},
		{"an empty one", rect.Move(box(1, 2, -3, 0), 1, 1), box(2, 3, -3, 0)},
		{"by 0 past the rails", rect.Move(box(least, most, rail+1, -rail-1), 0, 0), box(-rail, rail, rail, -rail)},
	})
	eachOf(few(), func(r api.Rect) {
		for _, d := range edges() {
			c := clippedRect(r)
			if got, want := rect.Move(r, d, 3), box(clip(c.X+clip(d)), clip(c.Y+3), c.W, c.H); got != want {
				t.Fatalf("P2.3: Move(%v, %d, 3): %v, want %v", r, d, got, want)
			}
			if got, want := rect.Move(r, -3, d), box(clip(c.X-3), clip(c.Y+clip(d)), c.W, c.H); got != want {
				t.Fatalf("P2.3: Move(%v, -3, %d): %v, want %v", r, d, got, want)
			}
		}
	})
}

func TestInset(t *testing.T) {
	checkAll(t, "P2.3", []pair{
		{"by 0", rect.Inset(box(1, 2, 3, 4), 0, 0, 0, 0), box(1, 2, 3, 4)},
		{"top alone", rect.Inset(box(0, 0, 10, 10), 3, 0, 0, 0), box(0, 3, 10, 7)},
		{"right alone", rect.Inset(box(0, 0, 10, 10), 0, 3, 0, 0), box(0, 0, 7, 10)},
		{"bottom alone", rect.Inset(box(0, 0, 10, 10), 0, 0, 3, 0), box(0, 0, 10, 7)},
		{"left alone", rect.Inset(box(0, 0, 10, 10), 0, 0, 0, 3), box(3, 0, 7, 10)},
		{"outwards", rect.Inset(box(0, 0, 10, 10), -1, -2, -3, -4), box(-4, -1, 16, 14)},
		{"just to 0", rect.Inset(box(0, 0, 10, 10), 4, 5, 6, 5), box(5, 4, 0, 0)},
		{"one side past the other", rect.Inset(box(0, 0, 10, 10), 0, 0, 0, 11), box(11, 0, 0, 10)},
		{"sides below 0", rect.Inset(box(7, 8, -5, -6), 0, 0, 0, 0), box(7, 8, 0, 0)},
		{"outwards from below 0", rect.Inset(box(7, 8, -5, -6), -4, -4, -4, -4), box(3, 4, 3, 2)},
		{"parts past the rails", rect.Inset(box(most, least, most, most), 1, 2, 3, -4), box(rail-4, 1-rail, rail-2, rail-4)},
		// The left number is taken off first and stops at the rail, and the right one is taken off what is left then.
		{"left ahead of right", rect.Inset(box(0, 0, 10, 10), least, most, most, least), box(-rail, -rail, 0, 0)},
		{"right does not give back", rect.Inset(box(0, 0, 10, 10), most, least, least, most), box(rail, rail, 10, 10)},
		{"left beyond the rail", rect.Inset(box(0, 0, rail, rail), -5, 5, 7, -5), box(-5, -5, rail-5, rail-7)},
	})
}

func TestInsetIsThePlainOne(t *testing.T) {
	shrunk := func(length, first, second int64) int64 { return max(clip(clip(length-first)-second), 0) }
	eachOf(few(), func(r api.Rect) {
		for _, one := range few() {
			for _, two := range few() {
				c, p, q := clippedRect(r), clip(one), clip(two)
				want := box(clip(c.X+q), clip(c.Y+p), shrunk(c.W, q, p), shrunk(c.H, p, q))
				if got := rect.Inset(r, one, one, two, two); got != want {
					t.Fatalf("P2.3: Inset(%v, %d, %d, %d, %d): %v, want %v", r, one, one, two, two, got, want)
				}
			}
		}
	})
}

// P2.4

func TestMeetAndJoinByTheirPoints(t *testing.T) {
	const far = 1 << 40
	sides := [][2]int64{{0, 2}, {1, 1}, {-1, 3}, {2, 2}, {0, 0}, {3, -1}, {-far, far}, {far - 2, 2}, {-far, 1}}
	var all []api.Rect
	for _, s := range sides {
		for _, u := range sides {
			all = append(all, box(s[0], u[0], s[1], u[1]))
		}
	}
	points := []int64{-far - 1, -far, 1 - far, -2, -1, 0, 1, 2, 3, 4, far - 3, far - 2, far - 1, far}
	for _, a := range all {
		for _, b := range all {
			meet, join := rect.Meet(a, b), rect.Join(a, b)
			if meet != rect.Meet(b, a) || join != rect.Join(b, a) {
				t.Fatalf("P2.4: %v and %v: another answer the other way round", a, b)
			}
			for _, x := range points {
				for _, y := range points {
					one, two := rect.Has(a, x, y), rect.Has(b, x, y)
					if rect.Has(meet, x, y) != (one && two) {
						t.Fatalf("P2.4: Meet(%v, %v): %v, at %d, %d", a, b, meet, x, y)
					}
					if (one || two) && !rect.Has(join, x, y) {
						t.Fatalf("P2.4: Join(%v, %v): %v, at %d, %d", a, b, join, x, y)
					}
				}
			}
		}
	}
}

func TestJoinIsTheLeast(t *testing.T) {
	within := func(a, b, r api.Rect) bool { return rect.Meet(a, r) == a && rect.Meet(b, r) == b }
	eachOf([]int64{-1, 1, 2, 4}, func(a api.Rect) {
		eachOf([]int64{-1, 1, 2, 4}, func(b api.Rect) {
			if rect.Empty(a) || rect.Empty(b) {
				return
			}
			join := rect.Join(a, b)
			if !within(a, b, join) {
				t.Fatalf("P2.2: Join(%v, %v): %v does not cover both", a, b, join)
			}
			for side := range 4 {
				var by [4]int64
				by[side] = 1
				if within(a, b, rect.Inset(join, by[0], by[1], by[2], by[3])) {
					t.Fatalf("P2.2: Join(%v, %v): %v is not the least", a, b, join)
				}
			}
		})
	})
}
