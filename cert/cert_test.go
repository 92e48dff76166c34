package cert

import (
	"slices"
	"testing"

	"pursebearer/api"
)

func TestExample(t *testing.T) {
	a := New()
	c := a.Issue(3, 10, 100)
	if c != (api.Cert{Serial: 1, Root: 1, Service: 3, From: 10, To: 110}) {
		t.Error(c)
	}
	if a.Rotate(20, 5) != 2 {
		t.Error("root")
	}
	if a.Check(c, 3, 24) != api.OK || a.Check(c, 3, 25) != api.ErrCert || a.Check(c, 3, 15) != api.OK {
		t.Error("check")
	}
	d := a.Issue(-4, 20, 0)
	if d != (api.Cert{Serial: 2, Root: 2, Service: -4, From: 20, To: 20}) || a.Check(d, -4, 20) != api.ErrDate {
		t.Error(d)
	}
}

func TestCheck(t *testing.T) {
	a := New()
	c := a.Issue(3, 10, 100)
	other := a.Issue(3, 10, 100)
	for i, spoil := range []func(*api.Cert){
		func(c *api.Cert) { c.Serial = 3 }, func(c *api.Cert) { c.Serial = 0 }, func(c *api.Cert) { c.Serial = -1 },
		func(c *api.Cert) { c.Root = 2 }, func(c *api.Cert) { c.Service = 4 }, func(c *api.Cert) { c.From = 9 }, func(c *api.Cert) { c.To = 111 },
		func(c *api.Cert) { *c = api.Cert{} },
	} {
		x := c
		spoil(&x)
		if got := a.Check(x, x.Service, 50); got != api.ErrCert {
			t.Error(i, got)
		}
	}
	for now, want := range map[int]api.Errno{9: api.ErrDate, 10: api.OK, 109: api.OK, 110: api.ErrDate, 0: api.ErrDate, api.MaxTime: api.ErrDate} {
		if got := a.Check(c, 3, now); got != want {
			t.Error(now, got)
		}
	}
	if a.Check(c, 4, 0) != api.ErrCert {
		t.Error("service")
	}
	if !a.Revoke(1) || a.Revoke(1) || a.Revoke(0) || a.Revoke(3) || a.Revoke(-1) {
		t.Error("revoke")
	}
	last := a.Issue(3, 10, 100)
	if !a.Revoke(last.Serial) || a.Check(last, 3, 10) != api.ErrRevoke {
		t.Error("the last one")
	}
	if a.Check(c, 3, 0) != api.ErrRevoke || a.Check(c, 4, 0) != api.ErrCert || a.Check(other, 3, 10) != api.OK {
		t.Error("revoked")
	}
	a.Rotate(60, 0)
	if a.Check(c, 3, 60) != api.ErrCert || a.Check(c, 3, 59) != api.ErrRevoke {
		t.Error("untrusted goes ahead")
	}
}

func TestRoots(t *testing.T) {
	a := New()
	if !slices.Equal(a.Roots(api.MaxTime), []int{1}) {
		t.Error("one")
	}
	a.Rotate(10, 20) // 1 up to 30
	if a.Rotate(15, 5) != 3 {
		t.Error("number") // 1 and 2 up to 20
	}
	a.Rotate(16, 100) // 3 up to 116, others as they were
	for now, want := range map[int][]int{0: {1, 2, 3, 4}, 19: {1, 2, 3, 4}, 20: {3, 4}, 115: {3, 4}, 116: {4}, api.MaxTime: {4}} {
		if got := a.Roots(now); !slices.Equal(got, want) {
			t.Error(now, got)
		}
	}
}

func TestUnderLoad(t *testing.T) {
	a := New()
	var l []api.Cert
	for now := range 300 {
		if now%40 == 39 {
			a.Rotate(now, 50)
		}
		l = append(l, a.Issue(now%3, now, 90))
		for _, c := range l {
			got := a.Check(c, c.Service, now)
			roots := a.Roots(now)
			if in := now < c.To; (got == api.OK) != (in && slices.Contains(roots, c.Root)) {
				t.Fatal(now, c, got)
			}
			if c.From == now && got != api.OK || now-c.From < 50 && got != api.OK {
				t.Fatal("fresh", now, c, got)
			}
		}
	}
}
