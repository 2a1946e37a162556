// Package fixed: units that saturate: see doc/01-fixed.md.
package fixed

import (
	"cmp"
	"slices"

	"casement/api"
)

// maxFactor bounds what a number of units is multiplied by: a product with a number between the rails then fits in an int64, so that no step wraps round ahead of its answer being brought between the rails.
const maxFactor = 1 << 16

// Sat brings n between the rails.
func Sat(n int64) int64 { return between(n, -api.Rail, api.Rail) }

// Add is a and b together.
func Add(a, b int64) int64 { return Sat(Sat(a) + Sat(b)) }

// Sub is a less b.
func Sub(a, b int64) int64 { return Sat(Sat(a) - Sat(b)) }

// Times is a, n times. The two are not bounded alike: a is units, n is a count.
func Times(a, n int64) int64 { return Sat(Sat(a) * between(n, -maxFactor, maxFactor)) }

// Part is num / den of a, rounded down.
func Part(a, num, den int64) int64 {
	product := Sat(a) * between(num, 0, maxFactor)
	return Sat(divideDown(product, between(den, 1, maxFactor)))
}

// Share splits total by the weights into whole units that add up to it.
func Share(total int64, weights []int64) []int64 {
	shares := make([]int64, len(weights))
	sum := sumOfWeights(weights)
	if sum == 0 {
		return shares
	}
	total = between(total, 0, api.Rail)
	left := total
	remainders := make([]int64, len(weights))
	for i, w := range weights {
		product := total * weight(w)
		shares[i], remainders[i] = product/sum, product%sum
		left -= shares[i]
	}
	// The remainders add up to left times sum, and each is below sum: so more of them than left are above 0, or left is 0.
	for _, i := range greatestFirst(remainders)[:left] {
		shares[i]++
	}
	return shares
}

// Sum adds up from the left on, so that what passes a rail stays there for the numbers behind it.
func Sum(l ...int64) int64 {
	sum := int64(0)
	for _, n := range l {
		sum = Add(sum, n)
	}
	return sum
}

func between(n, low, high int64) int64 { return max(low, min(n, high)) }

// divideDown rounds towards minus, where Go's own division rounds towards 0; d is above 0.
func divideDown(n, d int64) int64 {
	if n%d < 0 {
		return n/d - 1
	}
	return n / d
}

func weight(w int64) int64 { return between(w, 0, maxFactor) }

// sumOfWeights is exact, unlike Sum: weights are no units, and the rails are not theirs.
func sumOfWeights(weights []int64) int64 {
	sum := int64(0)
	for _, w := range weights {
		sum += weight(w)
	}
	return sum
}

// greatestFirst lists the places of l, those of the greatest numbers first, of equal ones the first.
func greatestFirst(l []int64) []int {
	places := make([]int, len(l))
	for i := range places {
		places[i] = i
	}
	slices.SortFunc(places, func(i, k int) int {
		return cmp.Or(cmp.Compare(l[k], l[i]), cmp.Compare(i, k))
	})
	return places
}
