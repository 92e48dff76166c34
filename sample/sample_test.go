package sample

import (
	"math/rand"
	"slices"
	"strconv"
	"testing"

	"pursebearer/api"
	"pursebearer/draw"
)

func TestHead(t *testing.T) {
	for _, req := range []int{1, 7, 300, 0, -12, 1 << 40} {
		h := int(draw.Hash(strconv.Itoa(req)) % 100)
		if Head(req, h) || !Head(req, h+1) || Head(req, 0) || !Head(req, 100) || Head(req, -5) {
			t.Error(req)
		}
	}
}

func span(name string) api.Span { return api.Span{Name: name, Service: 1} }

func TestExample(t *testing.T) {
	s := New(1, 0, 10)
	if got := append(s.Add(span("7:1")), s.Add(span("7:1/0:1"))...); len(got) != 0 || s.Len() != 1 {
		t.Error(got)
	}
	if got := s.Add(span("8:1")); !slices.Equal(got, []api.Span{span("7:1"), span("7:1/0:1")}) || s.Len() != 1 {
		t.Error(got)
	}
	if got := s.Over(8, true, 9); len(got) != 0 || s.Len() != 0 {
		t.Error(got)
	}
}

func TestOver(t *testing.T) {
	s := New(9, 50, 10)
	for req := 1; req < 9; req++ {
		s.Add(span(strconv.Itoa(req) + ":1"))
		s.Add(span(strconv.Itoa(req) + ":2"))
	}
	one := func(req int) []api.Span {
		return []api.Span{span(strconv.Itoa(req) + ":1"), span(strconv.Itoa(req) + ":2")}
	}
	if !slices.Equal(s.Over(1, false, 0), one(1)) || !slices.Equal(s.Over(2, true, 10), one(2)) || len(s.Over(1, false, 0)) != 0 || len(s.Over(77, false, 0)) != 0 {
		t.Error("fails, or is slow")
	}
	for req := 3; req < 9; req++ {
		got := s.Over(req, true, 9)
		if Head(req, 50) && !slices.Equal(got, one(req)) || !Head(req, 50) && len(got) != 0 {
			t.Error(req, got)
		}
	}
	if s.Len() != 0 {
		t.Error("len")
	}
}

func TestOnce(t *testing.T) {
	r := rand.New(rand.NewSource(1))
	for range 200 {
		most := 1 + r.Intn(4)
		s := New(most, 0, 5)
		var row []int                // requests that are held, as they came
		held := map[int][]api.Span{} // what is held of them
		for i := range 60 {
			req := 1 + r.Intn(6)
			if r.Intn(4) == 0 {
				well, took := r.Intn(2) == 0, r.Intn(10)
				want := held[req]
				if well && took < 5 {
					want = nil
				}
				if got := s.Over(req, well, took); !slices.Equal(got, want) {
					t.Fatal(got, want)
				}
				delete(held, req)
				row = slices.DeleteFunc(row, func(n int) bool { return n == req })
				continue
			}
			x := span(strconv.Itoa(req) + ":" + strconv.Itoa(i+1))
			var want []api.Span
			if len(held[req]) == 0 {
				if len(row) == most {
					want = held[row[0]]
					delete(held, row[0])
					row = row[1:]
				}
				row = append(row, req)
			}
			held[req] = append(held[req], x)
			if got := s.Add(x); !slices.Equal(got, want) {
				t.Fatal(got, want)
			}
			if s.Len() != len(row) || s.Len() > most {
				t.Fatal("len")
			}
		}
	}
}
