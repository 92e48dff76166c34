package dedup

import (
	"math/rand"
	"strconv"
	"testing"

	"pursebearer/api"
)

func TestExample(t *testing.T) {
	d := New(10)
	if d.Has(0, "k") || !d.Put(5, "k") || d.Put(14, "k") || !d.Has(14, "k") || d.Len(14) != 1 || d.Has(15, "k") || d.Len(15) != 0 || !d.Put(15, "k") {
		t.Error("k")
	}
	if d.Has(15, "") || !d.Put(15, "") || d.Len(15) != 2 || d.Put(24, "") || !d.Put(25, "") {
		t.Error("the empty text")
	}
	if !d.Put(api.MaxTime, "k") || d.Put(api.MaxTime, "k") || d.Len(api.MaxTime) != 1 {
		t.Error("last tick")
	}
}

func TestOne(t *testing.T) {
	d := New(1)
	if !d.Put(3, "a") || d.Put(3, "a") || !d.Put(4, "a") || d.Len(4) != 1 || d.Len(5) != 0 {
		t.Error("horizon 1")
	}
}

func TestModel(t *testing.T) {
	r := rand.New(rand.NewSource(1))
	for range 200 {
		horizon := 1 + r.Intn(12)
		d, put := New(horizon), map[string]int{}
		now := 0
		for range 150 {
			now += r.Intn(3)
			key := strconv.Itoa(r.Intn(6))
			at, ok := put[key]
			is := ok && now < at+horizon
			switch r.Intn(3) {
			case 0:
				if d.Has(now, key) != is {
					t.Fatal("has", now, key)
				}
			case 1:
				if d.Put(now, key) == is {
					t.Fatal("put", now, key)
				}
				if !is {
					put[key] = now
				}
			default:
				n := 0
				for _, at := range put {
					if now < at+horizon {
						n++
					}
				}
				if d.Len(now) != n {
					t.Fatal("len", now)
				}
			}
		}
		if d.Len(now + horizon); len(d.at)+len(d.row) != 0 {
			t.Fatal("something is kept")
		}
	}
}
