package purse

import (
	"math/rand"
	"slices"
	"strconv"
	"testing"

	"pursebearer/api"
)

func TestSplit(t *testing.T) {
	for _, x := range []struct {
		n, kids int
		want    []int
	}{{7, 3, []int{3, 2, 2}}, {0, 2, []int{0, 0}}, {5, 0, nil}, {2, 4, []int{1, 1, 0, 0}}, {6, 3, []int{2, 2, 2}}, {1<<31 - 1, 2, []int{1 << 30, 1<<30 - 1}}} {
		if got := Split(x.n, x.kids); !slices.Equal(got, x.want) {
			t.Error(x, got)
		}
	}
	for _, x := range [][3]int{{0, 0, 0}, {1, 0, 1}, {7, 3, 4}, {8, 4, 4}, {1<<31 - 1, 1<<30 - 1, 1 << 30}} {
		if along, kept := Half(x[0]); along != x[1] || kept != x[2] {
			t.Error(x, along, kept)
		}
	}
}

func TestExample(t *testing.T) {
	l := New()
	if l.Mint(7, 5) != api.OK || l.Move("7", "7:1", 2) != api.OK || l.Spend("7", 1) != api.OK {
		t.Error("refused")
	}
	held, spent := l.Sum(7)
	if l.Left("7") != 2 || l.Left("7:1") != 2 || held != 4 || spent != 1 {
		t.Error(held, spent)
	}
}

func TestMint(t *testing.T) {
	l := New()
	for _, x := range []struct {
		req, n int
		want   api.Errno
	}{{0, 1, api.ErrArg}, {-1, 1, api.ErrArg}, {1 << 31, 1, api.ErrArg}, {1, -1, api.ErrArg}, {1, 1 << 31, api.ErrArg}, {1, 1<<31 - 1, api.OK}, {1, 0, api.ErrTwice}, {1, -1, api.ErrArg}, {1<<31 - 1, 0, api.OK}, {1<<31 - 1, 0, api.ErrTwice}} {
		if got := l.Mint(x.req, x.n); got != x.want {
			t.Error(x, got)
		}
	}
	if l.Move("1", "1:1", 3) != api.OK || l.Move("1:1", "1", 3) != api.OK {
		t.Error("request 1")
	}
	if l.Left("1") != 1<<31-1 || l.Left("2147483647") != 0 {
		t.Error("left")
	}
	if held, spent := l.Sum(5); held != 0 || spent != 0 {
		t.Error("not minted")
	}
}

func TestWrong(t *testing.T) {
	l := New()
	l.Mint(7, 5)
	for _, x := range []struct {
		from, to string
		n        int
		want     api.Errno
	}{
		{"7", "7:1", -1, api.ErrArg}, {"07", "7", 0, api.ErrArg}, {"", "7", 0, api.ErrArg}, {"7", "8", 1, api.ErrArg}, {"7", "x", 1, api.ErrArg},
		{"0:1", "0", 0, api.ErrArg}, {"2147483648", "2147483648", 0, api.ErrArg}, {"+7", "7", 0, api.ErrArg}, {"7 ", "7", 0, api.ErrArg},
		{"8", "8:1", 9, api.ErrNone}, {"7", "7~", 6, api.ErrPurse}, {"7:1", "7", 1, api.ErrPurse},
		{"7", "7/anything :~", 5, api.OK}, {"7/anything :~", "7", 5, api.OK}, {"7:", "7~", 0, api.OK}, {"7", "7", 5, api.OK},
	} {
		if got := l.Move(x.from, x.to, x.n); got != x.want {
			t.Error(x, got)
		}
	}
	for _, x := range []struct {
		at   string
		n    int
		want api.Errno
	}{{"7", -1, api.ErrArg}, {"x", 0, api.ErrArg}, {"9", 0, api.ErrNone}, {"7", 6, api.ErrPurse}, {"7~", 1, api.ErrPurse}, {"7~", 0, api.OK}} {
		if got := l.Spend(x.at, x.n); got != x.want {
			t.Error(x, got)
		}
	}
	if held, spent := l.Sum(7); held != 5 || spent != 0 || l.Left("7") != 5 {
		t.Error("changed", held, spent)
	}
}

func TestConserved(t *testing.T) {
	r := rand.New(rand.NewSource(1))
	tails := []string{"", ":1", ":2", ":1/0", "~", "/x"}
	for range 200 {
		l := New()
		minted, spent := map[int]int{}, map[int]int{}
		for range 60 {
			req, n := 1+r.Intn(3), r.Intn(9)
			own := strconv.Itoa(req)
			a, b := own+tails[r.Intn(len(tails))], own+tails[r.Intn(len(tails))]
			switch r.Intn(4) {
			case 0:
				if l.Mint(req, n) == api.OK {
					minted[req] = n
				}
			case 1:
				if l.Spend(a, n) == api.OK {
					spent[req] += n
				}
			default:
				l.Move(a, b, n)
			}
			for req := 1; req < 4; req++ {
				sum := 0
				for _, tail := range tails {
					left := l.Left(strconv.Itoa(req) + tail)
					if left < 0 {
						t.Fatal("below 0")
					}
					sum += left
				}
				if held, out := l.Sum(req); held != sum || out != spent[req] || held+out != minted[req] {
					t.Fatal(req, held, out)
				}
			}
		}
	}
}
