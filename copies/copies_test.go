package copies

import (
	"testing"

	"pursebearer/api"
)

func full() []api.Line {
	c := api.Conf{
		Services: []api.Service{{ID: 1, Kids: []string{"/a"}}},
		Ends:     []api.End{{ID: 2}},
		Rules:    []api.Rule{{M: api.Match{Path: "/", Heads: []api.Head{{Name: "h"}}}, Parts: []api.Part{{Service: 1}}, Set: []api.Head{{Name: "s"}}, Drop: []string{"d"}}},
		Rates:    []api.Rate{{Limit: 3}},
		Life:     7,
	}
	return []api.Line{{Do: 1, R: api.Request{ID: 4, Heads: []api.Head{{Name: "r"}}}, C: c}}
}

func same(t *testing.T, l []api.Line) {
	t.Helper()
	x := l[0]
	r := x.C.Rules[0]
	if x.Do != 1 || x.R.ID != 4 || x.R.Heads[0].Name != "r" || x.C.Services[0].Kids[0] != "/a" || x.C.Ends[0].ID != 2 || x.C.Rates[0].Limit != 3 || x.C.Life != 7 ||
		r.M.Path != "/" || r.M.Heads[0].Name != "h" || r.Parts[0].Service != 1 || r.Set[0].Name != "s" || r.Drop[0] != "d" {
		t.Errorf("%+v", x)
	}
}

func TestLines(t *testing.T) {
	l := full()
	own := Lines(l)
	same(t, own)
	x := &own[0]
	r := &x.C.Rules[0]
	x.R.Heads[0].Name, x.C.Services[0].Kids[0], x.C.Ends[0].ID, x.C.Rates[0].Limit = "q", "q", 9, 9
	r.M.Heads[0].Name, r.Parts[0].Service, r.Set[0].Name, r.Drop[0] = "q", 9, "q", "q"
	x.C.Services[0].ID = 9
	same(t, l)
	if len(Lines(nil)) != 0 || len(Conf(api.Conf{}).Rules) != 0 {
		t.Error("none")
	}
}
