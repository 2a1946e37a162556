package fixed_test

import (
	"math"
	"math/big"
	"slices"
	"testing"

	"casement/api"
	"casement/fixed"
)

const (
	rail   = api.Rail
	factor = 1 << 16
)

// edges are the numbers about which the chapter's bounds lie, and some between and far beyond.
func edges() []int64 {
	var l []int64
	for _, n := range []int64{0, 2, 7, 64, 100, 12345, factor, 1 << 30, 123456789012, rail, 1 << 62, math.MaxInt64} {
		for _, d := range []int64{-1, 0, 1} {
			if n == math.MaxInt64 && d == 1 {
				continue
			}
			l = append(l, n+d, -(n + d))
		}
	}
	l = append(l, math.MinInt64, math.MinInt64+1)
	slices.Sort(l)
	return slices.Compact(l)
}

// clip is the exact way to bring n between low and high.
func clip(n *big.Int, low, high int64) *big.Int {
	if n.Cmp(big.NewInt(low)) < 0 {
		return big.NewInt(low)
	}
	if n.Cmp(big.NewInt(high)) > 0 {
		return big.NewInt(high)
	}
	return n
}

func clipped(n, low, high int64) *big.Int { return clip(big.NewInt(n), low, high) }

func railed(n *big.Int) int64 { return clip(n, -rail, rail).Int64() }

func TestRunsAndExamples(t *testing.T) {
	for _, c := range []struct {
		call      string
		got, want int64
	}{
		{"Add(Rail, 1)", fixed.Add(rail, 1), rail},
		{"Sub(-Rail, 1)", fixed.Sub(-rail, 1), -rail},
		{"Times(Rail, 2)", fixed.Times(rail, 2), rail},
		{"Part(-1, 1, 2)", fixed.Part(-1, 1, 2), -1},
		{"Part(100, 1, 3)", fixed.Part(100, 1, 3), 33},
		{"Part(7, 0, 5)", fixed.Part(7, 0, 5), 0},
		{"Part(7, 1, 0)", fixed.Part(7, 1, 0), 7},
		{"Part(64, 50, 100)", fixed.Part(64, 50, 100), 32},
		{"Add(2^62, -5)", fixed.Add(1<<62, -5), rail - 5},
	} {
		if c.got != c.want {
			t.Errorf("%s: %d, want %d", c.call, c.got, c.want)
		}
	}
}

// P1.1

func TestSatStopsAtTheRails(t *testing.T) {
	for _, n := range edges() {
		if got, want := fixed.Sat(n), railed(big.NewInt(n)); got != want {
			t.Errorf("Sat(%d): %d, want %d", n, got, want)
		}
	}
}

func TestAddSubTimesAreExactBetweenTheRails(t *testing.T) {
	for _, a := range edges() {
		for _, b := range edges() {
			x, y := clipped(a, -rail, rail), clipped(b, -rail, rail)
			n := clipped(b, -factor, factor)
			if got, want := fixed.Add(a, b), railed(new(big.Int).Add(x, y)); got != want {
				t.Errorf("Add(%d, %d): %d, want %d", a, b, got, want)
			}
			if got, want := fixed.Sub(a, b), railed(new(big.Int).Sub(x, y)); got != want {
				t.Errorf("Sub(%d, %d): %d, want %d", a, b, got, want)
			}
			if got, want := fixed.Times(a, b), railed(new(big.Int).Mul(x, n)); got != want {
				t.Errorf("Times(%d, %d): %d, want %d", a, b, got, want)
			}
		}
	}
}

func TestArgumentsAreRailedAheadOfReckoning(t *testing.T) {
	for _, c := range []struct {
		call      string
		got, want int64
	}{
		{"Add of the least and the greatest", fixed.Add(math.MinInt64, math.MaxInt64), 0},
		{"Add(MaxInt64, -Rail)", fixed.Add(math.MaxInt64, -rail), 0},
		{"Sub(MinInt64, MinInt64)", fixed.Sub(math.MinInt64, math.MinInt64), 0},
		{"Sub(0, MinInt64)", fixed.Sub(0, math.MinInt64), rail},
		{"Times(2, 2^16 + 1)", fixed.Times(2, factor+1), 2 << 16},
		{"Times(2, -2^16 - 1)", fixed.Times(2, -factor-1), -2 << 16},
		{"Times(MinInt64, -1)", fixed.Times(math.MinInt64, -1), rail},
		{"Times(MinInt64, MinInt64)", fixed.Times(math.MinInt64, math.MinInt64), rail},
		{"Times(MaxInt64, 0)", fixed.Times(math.MaxInt64, 0), 0},
	} {
		if c.got != c.want {
			t.Errorf("%s: %d, want %d", c.call, c.got, c.want)
		}
	}
}

func TestSumAddsFromTheLeft(t *testing.T) {
	for _, c := range []struct {
		l    []int64
		want int64
	}{
		{nil, 0},
		{[]int64{}, 0},
		{[]int64{7}, 7},
		{[]int64{1, 2, 3, -10}, -4},
		{[]int64{math.MaxInt64}, rail},
		{[]int64{math.MinInt64}, -rail},
		{[]int64{rail, rail, -5}, rail - 5},
		{[]int64{rail, -5, rail}, rail},
		{[]int64{-5, rail, rail}, rail},
		{[]int64{-rail, -1, rail, 1}, 1},
		{[]int64{math.MaxInt64, math.MaxInt64, math.MaxInt64, -rail}, 0},
	} {
		if got := fixed.Sum(c.l...); got != c.want {
			t.Errorf("Sum(%v): %d, want %d", c.l, got, c.want)
		}
	}
	if got := fixed.Sum(1, 2, 3); got != 6 {
		t.Errorf("Sum(1, 2, 3): %d, want 6", got)
	}
}

func TestSumIsAddOneByOne(t *testing.T) {
	for _, a := range edges() {
		for _, b := range edges() {
			want := fixed.Add(fixed.Add(fixed.Add(0, a), b), a)
			if got := fixed.Sum(a, b, a); got != want {
				t.Errorf("Sum(%d, %d, %d): %d, want %d", a, b, a, got, want)
			}
		}
	}
}

// P1.2

func TestPartIsExactAndRoundsDown(t *testing.T) {
	for _, a := range edges() {
		for _, num := range edges() {
			for _, den := range edges() {
				product := new(big.Int).Mul(clipped(a, -rail, rail), clipped(num, 0, factor))
				// Div leaves a remainder that is not below 0: it rounds down, as the divisor is above 0.
				want := railed(product.Div(product, clipped(den, 1, factor)))
				if got := fixed.Part(a, num, den); got != want {
					t.Fatalf("Part(%d, %d, %d): %d, want %d", a, num, den, got, want)
				}
			}
		}
	}
}

func TestPartBringsItsArgumentsWithinTheirBounds(t *testing.T) {
	for _, c := range []struct {
		a, num, den, want int64
	}{
		{-100, 1, 3, -34},
		{-99, 1, 3, -33},
		{7, -3, 5, 0},
		{-7, -3, 5, 0},
		{7, 3, -5, 21},
		{-7, 1, 0, -7},
		{1, factor + 1, 1, factor},
		{factor, 1, factor + 1, 1},
		{5, 1, math.MaxInt64, 0},
		{-5, 1, math.MaxInt64, -1},
		{rail, factor, 1, rail},
		{-rail, factor, 1, -rail},
		{math.MinInt64, math.MaxInt64, math.MinInt64, -rail},
		{math.MaxInt64, factor, factor, rail},
		{rail, factor - 1, factor, rail - rail/factor},
	} {
		if got := fixed.Part(c.a, c.num, c.den); got != c.want {
			t.Errorf("Part(%d, %d, %d): %d, want %d", c.a, c.num, c.den, got, c.want)
		}
	}
}

// P1.3

func TestShareRunsAndEdges(t *testing.T) {
	for _, c := range []struct {
		total         int64
		weights, want []int64
	}{
		{10, []int64{1, 1, 1}, []int64{4, 3, 3}},
		{10, []int64{0, 0}, []int64{0, 0}},
		{7, []int64{3, 1}, []int64{5, 2}},
		{7, nil, nil},
		{7, []int64{}, nil},
		{5, []int64{1}, []int64{5}},
		{0, []int64{1, 2}, []int64{0, 0}},
		{-5, []int64{1, 2}, []int64{0, 0}},
		{math.MinInt64, []int64{1}, []int64{0}},
		{math.MaxInt64, []int64{1}, []int64{rail}},
		{math.MaxInt64, []int64{1, 1, 0}, []int64{rail / 2, rail / 2, 0}},
		{10, []int64{-3, 1}, []int64{0, 10}},
		{10, []int64{-3, math.MinInt64, 0}, []int64{0, 0, 0}},
		{6, []int64{factor + 1, factor}, []int64{3, 3}},
		{6, []int64{math.MaxInt64, factor / 2}, []int64{4, 2}},
		{rail, []int64{factor, factor - 1}, []int64{35184640526336, 35184103651328}},
		// The unit that is left goes by the remainders, not by the places or the weights.
		{1, []int64{1, 2}, []int64{0, 1}},
		{4, []int64{1, 5, 3}, []int64{1, 2, 1}},
		{5, []int64{2, 3, 3}, []int64{1, 2, 2}},
		{2, []int64{0, 1, 0, 1, 1}, []int64{0, 1, 0, 1, 0}},
	} {
		if got := fixed.Share(c.total, c.weights); !slices.Equal(got, c.want) {
			t.Errorf("Share(%d, %v): %v, want %v", c.total, c.weights, got, c.want)
		}
	}
}

// plainShare gives out what is left unit by unit, each time to the first of the greatest remainders.
func plainShare(total int64, weights []int64) []int64 {
	whole := clipped(total, 0, rail)
	sum := new(big.Int)
	for _, w := range weights {
		sum.Add(sum, clipped(w, 0, factor))
	}
	shares := make([]int64, len(weights))
	if sum.Sign() == 0 {
		return shares
	}
	remainders := make([]*big.Int, len(weights))
	left := whole.Int64()
	for i, w := range weights {
		q, r := new(big.Int).DivMod(new(big.Int).Mul(whole, clipped(w, 0, factor)), sum, new(big.Int))
		shares[i], remainders[i] = q.Int64(), r
		left -= shares[i]
	}
	for ; left > 0; left-- {
		best := 0
		for i, r := range remainders {
			if r.Cmp(remainders[best]) > 0 {
				best = i
			}
		}
		shares[best]++
		remainders[best] = big.NewInt(-1)
	}
	return shares
}

// eachList calls f with every list of at most n numbers of those given.
func eachList(n int, of []int64, f func([]int64)) {
	var longer func(l []int64)
	longer = func(l []int64) {
		f(l)
		if len(l) == n {
			return
		}
		for _, w := range of {
			longer(append(slices.Clone(l), w))
		}
	}
	longer(nil)
}

func TestShareIsThePlainOne(t *testing.T) {
	check := func(total int64, weights []int64) {
		if got, want := fixed.Share(total, weights), plainShare(total, weights); !slices.Equal(got, want) {
			t.Fatalf("Share(%d, %v): %v, want %v", total, weights, got, want)
		}
	}
	eachList(4, []int64{0, 1, 2, 3, 7}, func(l []int64) {
		for total := range int64(12) {
			check(total, l)
		}
	})
	eachList(3, []int64{-1, 0, 1, factor - 1, factor, factor + 1, math.MaxInt64}, func(l []int64) {
		for _, total := range edges() {
			check(total, l)
		}
	})
}

func TestShareOfALongListGivesTheFirstOfEqualOnesMore(t *testing.T) {
	const n, left = 3000, 1234
	weights := make([]int64, n)
	for i := range weights {
		weights[i] = 5
	}
	for i, got := range fixed.Share(2*n+left, weights) {
		want := int64(2)
		if i < left {
			want = 3
		}
		if got != want {
			t.Fatalf("share %d of %d alike: %d, want %d", i, n, got, want)
		}
	}
}

func TestShareOfALongMixedListIsThePlainOne(t *testing.T) {
	weights := make([]int64, 600)
	for i := range weights {
		weights[i] = int64(i * i % 11)
	}
	for _, total := range []int64{1, 17, 299, 598, 1000, 12345} {
		if got, want := fixed.Share(total, weights), plainShare(total, weights); !slices.Equal(got, want) {
			t.Errorf("Share(%d, 600 mixed weights): %v, want %v", total, got, want)
		}
	}
}

// P1.4

func TestAddAndTimesGoEitherWayRound(t *testing.T) {
	for _, a := range edges() {
		for _, b := range edges() {
			if fixed.Add(a, b) != fixed.Add(b, a) {
				t.Errorf("Add(%d, %d): %d, the other way round %d", a, b, fixed.Add(a, b), fixed.Add(b, a))
			}
			// Past 2^16 a factor is brought back to it and a number of units is not (P1.1).
			if max(a, b) > factor || min(a, b) < -factor {
				continue
			}
			if fixed.Times(a, b) != fixed.Times(b, a) || fixed.Times(a, b) != a*b {
				t.Errorf("Times(%d, %d): %d, the other way round %d", a, b, fixed.Times(a, b), fixed.Times(b, a))
			}
		}
	}
}

func TestShareAddsUpAndIsFair(t *testing.T) {
	eachList(4, []int64{0, 1, 2, 5, factor}, func(weights []int64) {
		for _, total := range []int64{0, 1, 2, 3, 10, 64, 1000003, rail - 1, rail} {
			shares := fixed.Share(total, weights)
			if slices.ContainsFunc(weights, func(w int64) bool { return w > 0 }) && fixed.Sum(shares...) != total {
				t.Fatalf("Share(%d, %v): %v does not add up", total, weights, shares)
			}
			for i := range shares {
				for k := range shares {
					if weights[i] > weights[k] && shares[i] < shares[k] {
						t.Fatalf("Share(%d, %v): %v gives a greater weight less", total, weights, shares)
					}
				}
			}
		}
	})
}

// R1, R2, R4, R5

func TestListsAreNotChangedAndNotKept(t *testing.T) {
	room := []int64{3, 1, 2, 99, 98}
	before := slices.Clone(room)
	first := fixed.Share(7, room[:3])
	if fixed.Sum(room[:3]...) != 6 || !slices.Equal(room, before) {
		t.Fatalf("R2: the list that was handed in is %v, was %v", room, before)
	}
	kept := slices.Clone(first)
	second := fixed.Share(7, room[:3])
	for _, l := range [][]int64{room, second} {
		for i := range l {
			l[i] = -1
		}
	}
	if !slices.Equal(first, kept) {
		t.Fatalf("R2: an answer became %v, was %v", first, kept)
	}
}

func TestSpareRoomIsNotRead(t *testing.T) {
	for _, spare := range []int64{0, 1, math.MaxInt64} {
		l := []int64{1, 1, spare}
		if got := fixed.Share(5, l[:2]); !slices.Equal(got, []int64{3, 2}) {
			t.Errorf("R5: Share with %d behind its weights: %v", spare, got)
		}
		if got := fixed.Sum(l[:2]...); got != 2 {
			t.Errorf("R5: Sum with %d behind its numbers: %d", spare, got)
		}
	}
}
