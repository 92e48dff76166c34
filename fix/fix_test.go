package fix

import (
	"math/big"
	"math/rand"
	"testing"

	"pursebearer/api"
)

const least = -1 << 63

func pickInt(r *rand.Rand) int {
	switch r.Intn(4) {
	case 0:
		return r.Intn(21) - 10
	case 1:
		return least + r.Intn(5)
	case 2:
		return 1<<63 - 1 - r.Intn(5)
	}
	return int(r.Uint64())
}

func pickAbove(r *rand.Rand) int {
	n := pickInt(r)
	if n < 0 {
		n = -(n + 1)
	}
	return max(n, 1)
}

func big2(n int) *big.Int { return big.NewInt(int64(n)) }

func TestClamp(t *testing.T) {
	for _, x := range [][4]int{{5, 1, 9, 5}, {0, 1, 9, 1}, {10, 1, 9, 9}, {1, 1, 9, 1}, {9, 1, 9, 9}, {3, 4, 4, 4}, {least, -1, 1, -1}} {
		if got := Clamp(x[0], x[1], x[2]); got != x[3] {
			t.Error(x, got)
		}
	}
}

func TestDownUp(t *testing.T) {
	r := rand.New(rand.NewSource(1))
	for range 20000 {
		a, b := pickInt(r), pickAbove(r)
		down := new(big.Int)
		rest := new(big.Int)
		down.DivMod(big2(a), big2(b), rest)
		up := new(big.Int).Set(down)
		if rest.Sign() != 0 {
			up.Add(up, big2(1))
		}
		if big2(Down(a, b)).Cmp(down) != 0 || big2(Up(a, b)).Cmp(up) != 0 {
			t.Fatal(a, b, Down(a, b), Up(a, b))
		}
		if a != least && Up(a, b) != -Down(-a, b) {
			t.Fatal("not turned", a, b)
		}
	}
	if Down(-7, 2) != -4 || Up(-7, 2) != -3 || Down(5, 0) != 0 || Up(5, 0) != 0 {
		t.Error("edges")
	}
}

func TestPart(t *testing.T) {
	r := rand.New(rand.NewSource(2))
	most := func() int {
		if r.Intn(3) == 0 {
			return api.Most - r.Intn(3)
		}
		return int(r.Uint64()>>2) >> r.Intn(60)
	}
	for range 20000 {
		n, num, den := most(), most(), max(1, most())
		want := new(big.Int).Mul(big2(n), big2(num))
		want.Div(want, big2(den))
		if want.Cmp(big2(api.Most)) > 0 {
			want = big2(api.Most)
		}
		if got := Part(n, num, den); big2(got).Cmp(want) != 0 {
			t.Fatal(n, num, den, got, want)
		}
		if Part(n, den, den) != n {
			t.Fatal("whole", n, den)
		}
	}
	if Part(1<<40, 1<<40, 1<<41) != 1<<39 || Part(5, 5, 0) != api.Most {
		t.Error("edges")
	}
}

func TestRoot(t *testing.T) {
	r := rand.New(rand.NewSource(3))
	for range 5000 {
		n := int(r.Uint64()>>2) >> r.Intn(62)
		if x := Root(n); x*x > n || (x+1)*(x+1) <= n {
			t.Fatal(n, x)
		}
		k := r.Intn(1 << 31)
		if Root(k*k) != k || k > 0 && Root(k*k-1) != k-1 {
			t.Fatal("square", k)
		}
	}
	if Root(0) != 0 || Root(api.Most) != 1<<31-1 {
		t.Error("edges")
	}
}

func TestCmp(t *testing.T) {
	r := rand.New(rand.NewSource(4))
	for range 20000 {
		a, b, c, d := pickInt(r), pickAbove(r), pickInt(r), pickAbove(r)
		want := new(big.Int).Mul(big2(a), big2(d)).Cmp(new(big.Int).Mul(big2(c), big2(b)))
		if got := Cmp(a, b, c, d); got != want {
			t.Fatal(a, b, c, d, got, want)
		}
		if Cmp(c, d, a, b) != -want || Cmp(a, b, a, b) != 0 {
			t.Fatal("no order", a, b, c, d)
		}
		if want < 0 && Down(a, b) > Down(c, d) {
			t.Fatal("Down does not keep it", a, b, c, d)
		}
	}
	if Cmp(1, 2, 2, 4) != 0 || Cmp(-1, 2, -2, 3) != 1 {
		t.Error("edges")
	}
}

func TestSum(t *testing.T) {
	if Sum() != 0 || Sum(1, 2, 3) != 6 || Sum(api.Most, api.Most, api.Most) != api.Most || Sum(api.Most-1, 1) != api.Most || Sum(api.Most-2, 1) != api.Most-1 {
		t.Error("sum")
	}
}

func TestFar(t *testing.T) {
	l := [][2]int{{9, 10}, {9, 10}, {9, 10}, {1, 10}}
	for i, x := range []struct {
		good, all, tenths int
		want              bool
	}{{1, 10, 15, true}, {1, 10, 17, true}, {1, 10, 18, false}, {9, 10, 0, false}, {7, 10, 0, false}, {6, 10, 0, true}} {
		if Far(x.good, x.all, l, x.tenths) != x.want {
			t.Error(i)
		}
	}
	if Far(0, 1, nil, 0) || Far(1, 2, [][2]int{{1, 2}, {2, 4}}, 0) || Far(1, 2, [][2]int{{0, 2}}, 0) {
		t.Error("edges")
	}
	two := [][2]int{{1, 1}, {0, 1}} // the deviation is as great as the mean
	if Far(0, 1, two, 10) || !Far(0, 1, two, 9) {
		t.Error("just as far")
	}
	if !Far(1, 2001, [][2]int{{1, 1000}}, 0) { // 0 of 1000, for a share is rounded down
		t.Error("share")
	}
}

func TestFarFew(t *testing.T) {
	r := rand.New(rand.NewSource(5))
	for range 2000 {
		l := make([][2]int, 1+r.Intn(30))
		best := 0
		for i := range l {
			all := 1 + r.Intn(20)
			l[i] = [2]int{r.Intn(all + 1), all}
			if share(l[i][0], l[i][1]) > share(l[best][0], l[best][1]) {
				best = i
			}
		}
		tenths := 1 + r.Intn(40)
		far := 0
		for _, x := range l {
			if Far(x[0], x[1], l, tenths) {
				far++
			}
		}
		if far*tenths*tenths > 100*len(l) || Far(l[best][0], l[best][1], l, tenths) {
			t.Fatal(l, tenths, far)
		}
	}
	long := make([][2]int, 1000)
	for i := range long {
		long[i] = [2]int{i % 2, 1}
	}
	if Far(0, 1, long, 1000) || !Far(0, 1, long, 9) {
		t.Error("long")
	}
}

// farByBig is Far, reckoned by numbers without bounds.
func farByBig(good, all int, l [][2]int, tenths int) bool {
	sum, squares := new(big.Int), new(big.Int)
	for _, x := range l {
		s := big2(x[0] * 1000 / x[1])
		sum.Add(sum, s)
		squares.Add(squares, new(big.Int).Mul(s, s))
	}
	n := big2(len(l))
	below := new(big.Int).Sub(sum, new(big.Int).Mul(n, big2(good*1000/all)))
	most := new(big.Int).Sub(new(big.Int).Mul(n, squares), new(big.Int).Mul(sum, sum))
	most.Mul(most, big2(tenths*tenths))
	return below.Sign() > 0 && new(big.Int).Mul(big2(100), below.Mul(below, below)).Cmp(most) > 0
}

func TestFarExact(t *testing.T) {
	r := rand.New(rand.NewSource(6))
	for range 3000 {
		l := make([][2]int, 1+r.Intn(40))
		for i := range l {
			all := 1 + r.Intn(1<<31-1)>>r.Intn(31)
			l[i] = [2]int{r.Intn(all + 1), all}
		}
		x, tenths := l[r.Intn(len(l))], r.Intn(1001)>>r.Intn(10)
		if Far(x[0], x[1], l, tenths) != farByBig(x[0], x[1], l, tenths) {
			t.Fatal(x, l, tenths)
		}
	}
}

// TestFarOfMany: chapter 14 lets a guard have as many endpoints as it likes, and holds each against all.
func TestFarOfMany(t *testing.T) {
	half := make([][2]int, 61000)
	for i := range half {
		half[i] = [2]int{i % 2, 1}
	}
	one := make([][2]int, 400000)
	for i := range one {
		one[i] = [2]int{min(i, 1), 1}
	}
	for i, x := range []struct {
		l      [][2]int
		tenths int
		want   bool
	}{{half, 9, true}, {half, 10, false}, {half, 100, false}, {half, 1000, false}, {one, 10, true}, {one, 100, true}, {one, 1000, true}} {
		if Far(0, 1, x.l, x.tenths) != x.want || farByBig(0, 1, x.l, x.tenths) != x.want || Far(1, 1, x.l, x.tenths) {
			t.Error(i)
		}
	}
}
