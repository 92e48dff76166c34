// Package draw is layer 2: numbers that are drawn.
package draw

const golden = 0x9e3779b97f4a7c15

// Draws are numbers that are drawn: some that are said, and behind them others, by a seed.
type Draws struct {
	from  func() uint64 // where the next one comes from: what is said, and then the seed
	said  []uint64
	state uint64
	used  int
}

// New is draws of a seed, behind some that are said.
func New(seed uint64, said []uint64) *Draws {
	d := &Draws{said: append([]uint64(nil), said...), state: seed}
	d.from = d.nextSaid
	return d
}

// nextSaid hands over to the seed for good, as soon as nothing that is said is left.
func (d *Draws) nextSaid() uint64 {
	if len(d.said) == 0 {
		d.said = nil
		d.from = d.nextSeeded
		return d.nextSeeded()
	}
	n := d.said[0]
	d.said = d.said[1:]
	return n
}

func (d *Draws) nextSeeded() uint64 {
	d.state += golden
	return scramble(d.state)
}

// Next is the next one.
func (d *Draws) Next() uint64 {
	d.used++
	return d.from()
}

// Below is the next one, from 0 to below n.
func (d *Draws) Below(n int) int {
	if n < 1 {
		return 0
	}
	return int(d.Next() % uint64(n))
}

// Two are two unlike numbers from 0 to below n.
func (d *Draws) Two(n int) (int, int) {
	if n < 2 {
		return 0, 0
	}
	i := d.Below(n)
	j := d.Below(n - 1)
	if j >= i {
		j++
	}
	return i, j
}

// Used is how many were drawn.
func (d *Draws) Used() int { return d.used }

// Hash is a text's number.
func Hash(s string) uint64 {
	h := uint64(14695981039346656037)
	for i := range len(s) {
		h = (h ^ uint64(s[i])) * 1099511628211
	}
	return h
}

// Mix is the number of two.
func Mix(a, b uint64) uint64 {
	return scramble(golden + (scramble(a+golden) ^ b))
}

func scramble(z uint64) uint64 {
	z = (z ^ z>>30) * 0xbf58476d1ce4e5b9
	z = (z ^ z>>27) * 0x94d049bb133111eb
	return z ^ z>>31
}
