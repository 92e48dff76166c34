package script

import (
	"strconv"
	"strings"

	"pursebearer/api"
)

const digits = "0123456789abcdef"

// plain tells whether a byte of a text is printed as it is.
func plain(b byte) bool {
	return b >= 'a' && b <= 'z' || b >= '0' && b <= '9' || b == '/' || b == '-' || b == '.' || b == '_'
}

// putter puts into words.
type putter struct{ l []string }

func (p *putter) put(word string) { p.l = append(p.l, word) }

func (p *putter) print() string { return strings.Join(p.l, " ") }

func (p *putter) do(n *int) { p.put(word(*n)) }

func (p *putter) number(n *int) { p.put(strconv.Itoa(*n)) }

func (p *putter) truth(b *bool) {
	if *b {
		p.put("1")
	} else {
		p.put("0")
	}
}

func (p *putter) text(s *string) {
	out := []byte{'_'}
	for i := range len(*s) {
		if b := (*s)[i]; plain(b) {
			out = append(out, b)
		} else {
			out = append(out, '\'', digits[b>>4], digits[b&15])
		}
	}
	p.put(string(out))
}

func (p *putter) count(have int) int {
	p.number(&have)
	return have
}

func (p *putter) odd() bool { return false }

// taker takes from words, as long as they are such as putter puts.
type taker struct {
	l      []string
	failed bool
}

func take(s string) *taker { return &taker{l: strings.Split(s, " ")} }

// whole tells whether all words were taken, and nothing else was sought.
func (t *taker) whole() bool { return !t.failed && len(t.l) == 0 }

func (t *taker) next() string {
	if t.failed || len(t.l) == 0 {
		t.failed = true
		return ""
	}
	w := t.l[0]
	t.l = t.l[1:]
	return w
}

func (t *taker) do(n *int) {
	w := t.next()
	for do := api.DoAsk; do <= api.DoRotate; do++ {
		if word(do) == w {
			*n = do
			return
		}
	}
	t.failed = true
}

func (t *taker) number(n *int) {
	w := t.next()
	x, err := strconv.Atoi(w)
	if err != nil || strconv.Itoa(x) != w {
		t.failed = true
		return
	}
	*n = x
}

func (t *taker) truth(b *bool) {
	w := t.next()
	*b = w == "1"
	t.failed = t.failed || w != "0" && w != "1"
}

func (t *taker) text(s *string) {
	w := t.next()
	if w == "" || w[0] != '_' {
		t.failed = true
		return
	}
	var out []byte
	for w = w[1:]; w != ""; {
		b, n := sign(w)
		if n == 0 {
			t.failed = true
			return
		}
		out = append(out, b)
		w = w[n:]
	}
	*s = string(out)
}

// sign is the byte with which a printed text begins, and how many bytes print it; 0: none do.
func sign(w string) (byte, int) {
	if plain(w[0]) {
		return w[0], 1
	}
	if w[0] != '\'' || len(w) < 3 {
		return 0, 0
	}
	high, low := strings.IndexByte(digits, w[1]), strings.IndexByte(digits, w[2])
	b := byte(high<<4 | low)
	// What is printed as it is has no other print.
	if high < 0 || low < 0 || plain(b) {
		return 0, 0
	}
	return b, 3
}

func (t *taker) count(have int) int {
	n := 0
	t.number(&n)
	t.failed = t.failed || n < 0
	return n
}

func (t *taker) odd() bool { return t.failed }
