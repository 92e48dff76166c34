// Package fix is layer 1: exact reckoning with whole numbers.
package fix

import (
	"math/bits"

	"pursebearer/api"
)

// Clamp is a number, no less than a least one, no greater than a greatest one.
func Clamp(n, low, high int) int {
	switch {
	case n < low:
		return low
	case n > high:
		return high
	}
	return n
}

// Down is a quotient, rounded down.
func Down(a, b int) int {
	if b < 1 {
		return 0
	}
	q := a / b
	if a%b < 0 {
		q--
	}
	return q
}

// Up is a quotient, rounded up.
func Up(a, b int) int {
	if b < 1 {
		return 0
	}
	q := a / b
	if a%b > 0 {
		q++
	}
	return q
}

// Part is n times num by den, rounded down, reckoned exactly; at most api.Most.
func Part(n, num, den int) int {
	high, low := bits.Mul64(uint64(n), uint64(num))
	if high >= uint64(den) {
		return api.Most
	}
	q, _ := bits.Div64(high, low, uint64(den))
	return int(min(q, api.Most))
}

// Root is the greatest number whose square is no greater.
func Root(n int) int {
	const most = 31 // bits that the root of a number up to api.Most may have
	root := 0
	for i := range most {
		if r := root | 1<<(most-1-i); r*r <= n {
			root = r
		}
	}
	return root
}

// Cmp compares a/b with c/d: -1, 0, 1.
func Cmp(a, b, c, d int) int {
	if a < 0 && c < 0 {
		return cmpSizes(size(c), uint64(b), size(a), uint64(d))
	}
	if a < 0 {
		return -1
	}
	if c < 0 {
		return 1
	}
	return cmpSizes(uint64(a), uint64(d), uint64(c), uint64(b))
}

// size is how far a number below 0 is from it; the least int has one, too, which no int holds.
func size(n int) uint64 { return -uint64(n) }

// cmpSizes compares the products a times b and c times d.
func cmpSizes(a, b, c, d uint64) int {
	high, low := bits.Mul64(a, b)
	high2, low2 := bits.Mul64(c, d)
	switch {
	case high < high2 || high == high2 && low < low2:
		return -1
	case high == high2 && low == low2:
		return 0
	}
	return 1
}

// Sum is all together, at most api.Most.
func Sum(l ...int) int {
	sum := 0
	for _, n := range l {
		// Both are at most api.Most here, so that their sum is an int still.
		sum = min(sum+n, api.Most)
	}
	return sum
}

// Far tells whether a share (good of all) is less than the mean of some by more than tenths of a deviation.
func Far(good, all int, l [][2]int, tenths int) bool {
	if len(l) == 0 {
		return false
	}
	sum, squares := 0, 0
	for _, x := range l {
		s := share(x[0], x[1])
		sum += s
		squares += s * s
	}
	// All is held n times as great as it is, and squared, so that nothing is rounded.
	n := len(l)
	below := sum - n*share(good, all)
	return below > 0 && 100*below*below > tenths*tenths*(n*squares-sum*sum)
}

// share is how many of a thousand are good.
func share(good, all int) int { return Down(good*1000, all) }
