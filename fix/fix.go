// Package fix is layer 1: exact reckoning with whole numbers.
package fix

import (
	"cmp"
	"math/bits"

	"pursebearer/api"
)

// Clamp is a number, no less than a least one, no greater than a greatest one.
func Clamp(n, low, high int) int {
	switch {
	case n < low:
		return low
	case n > high:
		return high
	}
	return n
}

// Down is a quotient, rounded down.
func Down(a, b int) int {
	if b < 1 {
		return 0
	}
	q := a / b
	if a%b < 0 {
		q--
	}
	return q
}

// Up is a quotient, rounded up.
func Up(a, b int) int {
	if b < 1 {
		return 0
	}
	q := a / b
	if a%b > 0 {
		q++
	}
	return q
}

// Part is n times num by den, rounded down, reckoned exactly; at most api.Most.
func Part(n, num, den int) int {
	high, low := bits.Mul64(uint64(n), uint64(num))
	if high >= uint64(den) {
		return api.Most
	}
	q, _ := bits.Div64(high, low, uint64(den))
	return int(min(q, api.Most))
}

// Root is the greatest number whose square is no greater.
func Root(n int) int {
	const most = 31 // bits that the root of a number up to api.Most may have
	root := 0
	for i := range most {
		if r := root | 1<<(most-1-i); r*r <= n {
			root = r
		}
	}
	return root
}

// Cmp compares a/b with c/d: -1, 0, 1.
func Cmp(a, b, c, d int) int {
	if a < 0 && c < 0 {
		return product(size(c), uint64(b)).cmp(product(size(a), uint64(d)))
	}
	if a < 0 {
		return -1
	}
	if c < 0 {
		return 1
	}
	return product(uint64(a), uint64(d)).cmp(product(uint64(c), uint64(b)))
}

// size is how far a number below 0 is from it; the least int has one, too, which no int holds.
func size(n int) uint64 { return -uint64(n) }

// wide is a number of 128 bits.
type wide struct{ high, low uint64 }

func product(a, b uint64) wide {
	high, low := bits.Mul64(a, b)
	return wide{high, low}
}

// times is a number, so many times; it has to be one of 128 bits still.
func (w wide) times(n uint64) wide {
	p := product(w.low, n)
	return wide{p.high + w.high*n, p.low}
}

// minus is a number, less another one that is no greater.
func (w wide) minus(v wide) wide {
	low, borrow := bits.Sub64(w.low, v.low, 0)
	return wide{w.high - v.high - borrow, low}
}

func (w wide) cmp(v wide) int {
	return cmp.Or(cmp.Compare(w.high, v.high), cmp.Compare(w.low, v.low))
}

// Sum is all together, at most api.Most.
func Sum(l ...int) int {
	sum := 0
	for _, n := range l {
		// Both are at most api.Most here, so that their sum is an int still.
		sum = min(sum+n, api.Most)
	}
	return sum
}

// Far tells whether a share (good of all) is less than the mean of some by more than tenths of a deviation.
func Far(good, all int, l [][2]int, tenths int) bool {
	if len(l) == 0 {
		return false
	}
	sum, squares := 0, 0
	for _, x := range l {
		s := share(x[0], x[1])
		sum += s
		squares += s * s
	}
	// All is held n times as great as it is, and squared, so that nothing is rounded; in 128 bits, for a guard may have so many endpoints that 64 are too few.
	n := len(l)
	below := sum - n*share(good, all)
	if below <= 0 {
		return false
	}
	most := product(uint64(n), uint64(squares)).minus(product(uint64(sum), uint64(sum))).times(uint64(tenths * tenths))
	return product(uint64(10*below), uint64(10*below)).cmp(most) > 0
}

// share is how many of a thousand are good.
func share(good, all int) int { return Down(good*1000, all) }
