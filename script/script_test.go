package script

import (
	"math/rand"
	"reflect"
	"strings"
	"testing"

	"pursebearer/api"
)

func ask(id, at int) api.Line {
	return api.Line{Do: api.DoAsk, R: api.Request{ID: id, At: at, Path: "/a", Life: 100, Purse: 3}}
}

func fault(from, to int) api.Line {
	return api.Line{Do: api.DoFault, F: api.Fault{Kind: api.Lose, From: from, To: to, A: 0, B: -1, N: 2}}
}

func full() api.Conf {
	return api.Conf{
		Services: []api.Service{{ID: 1, Kids: []string{"/b", ""}, Work: 2, Slots: 3, Queue: 4, Balance: 5, Warm: 6}, {ID: -7}},
		Ends:     []api.End{{ID: 8, Service: 9, Zone: 10}},
		Rules: []api.Rule{{
			M: api.Match{Path: "/A b", Exact: true, Heads: []api.Head{{Name: "h", Value: "'"}}}, Parts: []api.Part{{Service: 11, Weight: 12}}, Mirror: 13,
			Inject: api.Inject{Abort: 14, Delay: 15, Ticks: 16}, Prefix: "/p", Set: []api.Head{{Name: "s", Value: "\xff"}}, Drop: []string{"d", "e"},
			P: api.Policy{Timeout: 17, Tries: 18, Back: 19, Hedge: 20, Budget: api.Budget{Per: 21, Of: 22, Burst: 23}}, Rate: 24,
		}},
		Rates: []api.Rate{{Limit: 25, Window: 26, Slice: 27}},
		Watch: api.Watch{Errors: 28, Window: 29, Dev: 30, Slow: 31, Share: 32, Base: 33, Top: 34},
		Panic: 35, Low: 36, High: 37, Wait: 38, Hop: 39, Life: 40, Purse: 41, Horizon: 42, Sample: 43,
	}
}

const fullPrint = "2 1 2 _/b _ 2 3 4 5 6 -7 0 0 0 0 0 0 1 8 9 10 1 _/'41'20b 1 1 _h _'27 1 11 12 13 14 15 16 _/p 1 _s _'ff 2 _d _e 17 18 19 20 21 22 23 24 1 25 26 27 " +
	"28 29 30 31 32 33 34 35 36 37 38 39 40 41 42 43"

func TestPrint(t *testing.T) {
	x := ask(1, 5)
	x.R.Prio, x.R.Idem = 2, true
	y := ask(-1<<63, 1<<63-1)
	y.R.Path, y.R.Heads = "", []api.Head{{Name: "az09/-._", Value: "AZ`{ \n\x00é"}}
	for i, c := range []struct {
		l    api.Line
		want string
	}{
		{x, "ask 1 5 _/a 0 2 1 100 3"},
		{y, "ask -9223372036854775808 9223372036854775807 _ 1 _az09/-._ _'41'5a'60'7b'20'0a'00'c3'a9 0 0 100 3"},
		{fault(3, 9), "fault 1 3 9 0 -1 2"},
		{api.Line{Do: api.DoRotate, At: 7}, "rotate 7"},
		{api.Line{Do: api.DoPublish, At: 7, C: full()}, "publish 7 " + fullPrint},
	} {
		got, e := Print(c.l)
		if got != c.want || e != api.OK {
			t.Error(i, got, e)
		}
		back, e := Parse(c.want)
		if !reflect.DeepEqual(back, c.l) || e != api.OK {
			t.Errorf("%d: %+v %v", i, back, e)
		}
	}
	if got := PrintConf(full()); got != fullPrint {
		t.Error(got)
	}
	if c, e := ParseConf(fullPrint); e != api.OK || !reflect.DeepEqual(c, full()) {
		t.Error(c, e)
	}
	if got := PrintConf(api.Conf{Ends: []api.End{}}); got != strings.TrimSuffix(strings.Repeat("0 ", 20), " ") {
		t.Error(got)
	}
}

func TestMayBe(t *testing.T) {
	conf := api.Conf{Sample: 1}
	for i, x := range []api.Line{
		{}, {Do: 5}, {Do: -1}, {Do: api.DoAsk, At: 1}, {Do: api.DoAsk, F: api.Fault{N: 1}}, {Do: api.DoAsk, C: conf},
		{Do: api.DoFault, At: 1}, {Do: api.DoFault, R: api.Request{Idem: true}}, {Do: api.DoFault, C: api.Conf{Ends: make([]api.End, 1)}},
		{Do: api.DoPublish, R: api.Request{Heads: make([]api.Head, 1)}}, {Do: api.DoPublish, F: api.Fault{A: 1}},
		{Do: api.DoRotate, R: api.Request{Path: "/"}}, {Do: api.DoRotate, F: api.Fault{B: 1}}, {Do: api.DoRotate, C: conf},
	} {
		if s, e := Print(x); s != "" || e != api.ErrForm {
			t.Error(i, s, e)
		}
		if n, e := Check([]api.Line{ask(1, 1), x}); n != 1 || e != api.ErrForm {
			t.Error("check", i, n, e)
		}
	}
	for i, x := range []api.Line{{Do: api.DoRotate, R: api.Request{Heads: []api.Head{}}, C: api.Conf{Rules: []api.Rule{}}}, {Do: api.DoAsk}, {Do: api.DoPublish}} {
		if _, e := Print(x); e != api.OK {
			t.Error(i, e)
		}
	}
}

func TestParseWrong(t *testing.T) {
	for _, s := range []string{
		"", " ", "ask", "asks 1", "rotate", "rotate ", " rotate 1", "rotate 1 ", "rotate  1", "rotate 01", "rotate +1", "rotate -0", "rotate 1 2", "rotate x", "rotate 9223372036854775808",
		"rotate 1\n", "ROTATE 1", "ask 1 5 /a 0 2 1 100 3", "ask 1 5 _/a 0 2 2 100 3", "ask 1 5 _/a 0 2 01 100 3", "ask 1 5 _A 0 2 1 100 3", "ask 1 5 _'61 0 2 1 100 3",
		"ask 1 5 _'4 0 2 1 100 3", "ask 1 5 _' 0 2 1 100 3", "ask 1 5 _'4A 0 2 1 100 3", "ask 1 5 _'g1 0 2 1 100 3", "ask 1 5 _/a 1 2 1 100 3", "ask 1 5 _/a -1 2 1 100 3",
		"ask 1 5 _/a 9223372036854775807 _a _b", "ask 1 5  0 2 1 100 3", "fault 1 3 9 0 -1", "fault 1 3 9 0 -1 2 0", "publish 7", "publish 7 " + fullPrint + " 1", "_", "0",
	} {
		if x, e := Parse(s); e != api.ErrForm || !reflect.DeepEqual(x, api.Line{}) {
			t.Errorf("%q: %+v %v", s, x, e)
		}
	}
	for _, s := range []string{"", "0", fullPrint + " ", " " + fullPrint, "99999999999 1", "-1 0 0 0"} {
		if c, e := ParseConf(s); e != api.ErrForm || !reflect.DeepEqual(c, api.Conf{}) {
			t.Errorf("%q: %+v %v", s, c, e)
		}
	}
	if _, e := Parse("publish 7 " + fullPrint[1:]); e != api.ErrForm {
		t.Error("cut")
	}
}

func TestCheck(t *testing.T) {
	with := func(spoil func(*api.Request)) api.Line {
		x := ask(2, 5)
		spoil(&x.R)
		return x
	}
	bad := api.Line{Do: api.DoPublish, At: 3, C: api.Conf{Low: -9}}
	for i, x := range []struct {
		l    []api.Line
		n    int
		want api.Errno
	}{
		{nil, 0, api.OK}, {[]api.Line{ask(1, 0), ask(300, 20000), fault(0, 9), bad, {Do: api.DoRotate, At: 20000}}, 0, api.OK},
		{[]api.Line{ask(1, 0), with(func(r *api.Request) { r.ID = 0 })}, 1, api.ErrArg},
		{[]api.Line{ask(1, 0), with(func(r *api.Request) { r.ID = 301; r.At = -1 })}, 1, api.ErrArg},
		{[]api.Line{ask(1, 0), bad, with(func(r *api.Request) { r.ID = 1; r.At = -1 })}, 2, api.ErrTwice},
		{[]api.Line{with(func(r *api.Request) { r.At = -1; r.Path = "" })}, 0, api.ErrRange},
		{[]api.Line{with(func(r *api.Request) { r.At = 20001 })}, 0, api.ErrRange},
		{[]api.Line{with(func(r *api.Request) { r.Life = 1; r.Purse = 0 }), {Do: api.DoRotate}}, 0, api.OK},
		{[]api.Line{with(func(r *api.Request) { r.Life = 0 })}, 0, api.ErrRange},
		{[]api.Line{with(func(r *api.Request) { r.Life = 10001 })}, 0, api.ErrRange},
		{[]api.Line{with(func(r *api.Request) { r.Life = 10000; r.Purse = 64; r.Prio = -99 })}, 0, api.OK},
		{[]api.Line{with(func(r *api.Request) { r.Purse = 65 })}, 0, api.ErrRange},
		{[]api.Line{with(func(r *api.Request) { r.Purse = -1 })}, 0, api.ErrRange},
		{[]api.Line{with(func(r *api.Request) { r.Path = "a"; r.Heads = make([]api.Head, 1) })}, 0, api.ErrPath},
		{[]api.Line{with(func(r *api.Request) { r.Heads = make([]api.Head, 1) })}, 0, api.ErrHead},
		{[]api.Line{with(func(r *api.Request) { r.Heads = make([]api.Head, 9) })}, 0, api.ErrLong},
		{[]api.Line{fault(0, 9), fault(9, 9)}, 1, api.ErrRange},
		{[]api.Line{ask(1, 0), {Do: api.DoFault}}, 1, api.ErrArg},
		{[]api.Line{{Do: api.DoRotate, At: -1}}, 0, api.ErrRange}, {[]api.Line{{Do: api.DoPublish, At: 20001}}, 0, api.ErrRange},
	} {
		if n, e := Check(x.l); n != x.n || e != x.want {
			t.Error(i, n, e)
		}
	}
	var l []api.Line
	for range 40 {
		l = append(l, fault(0, 9))
	}
	if n, e := Check(l); n != 0 || e != api.OK {
		t.Error("40", n, e)
	}
	if n, e := Check(append(l, api.Line{Do: api.DoFault})); n != 40 || e != api.ErrFull {
		t.Error("41", n, e)
	}
}

func TestQuiet(t *testing.T) {
	l := []api.Line{ask(1, 5), fault(3, 50), {Do: api.DoPublish, At: 104}, {Do: api.DoRotate, At: 90}}
	if Quiet(nil) != 0 || Quiet(l) != 105 || Quiet(l[1:]) != 104 || Quiet(l[1:2]) != 50 || Quiet([]api.Line{ask(1, -500)}) != 0 || Quiet([]api.Line{{Do: 9, At: 7}}) != 7 {
		t.Error("quiet")
	}
	if Quiet([]api.Line{{Do: api.DoAsk, R: api.Request{At: 1 << 60, Life: 1 << 60}}}) != 1<<61 {
		t.Error("great")
	}
	for i := range l {
		if Quiet(l) != max(Quiet(l[:i]), Quiet(l[i:])) {
			t.Error("behind each other", i)
		}
	}
}

// fill sets a value, at every depth, by chance.
func fill(r *rand.Rand, v reflect.Value) {
	switch v.Kind() {
	case reflect.Int:
		v.SetInt(int64(r.Uint64()) >> r.Intn(64))
	case reflect.Bool:
		v.SetBool(r.Intn(2) == 0)
	case reflect.String:
		b := make([]byte, r.Intn(4))
		r.Read(b)
		v.SetString(string(b))
	case reflect.Struct:
		for i := range v.NumField() {
			fill(r, v.Field(i))
		}
	case reflect.Slice:
		n := r.Intn(3)
		if n == 0 {
			return
		}
		v.Set(reflect.MakeSlice(v.Type(), n, n))
		for i := range n {
			fill(r, v.Index(i))
		}
	}
}

func TestBack(t *testing.T) {
	r := rand.New(rand.NewSource(1))
	for range 3000 {
		var all api.Line
		fill(r, reflect.ValueOf(&all).Elem())
		x := []api.Line{{Do: api.DoAsk, R: all.R}, {Do: api.DoFault, F: all.F}, {Do: api.DoPublish, At: all.At, C: all.C}, {Do: api.DoRotate, At: all.At}}[r.Intn(4)]
		s, e := Print(x)
		if e != api.OK {
			t.Fatal(e)
		}
		if back, e := Parse(s); e != api.OK || !reflect.DeepEqual(back, x) {
			t.Fatalf("%s: %+v %+v", s, back, x)
		}
		// What is not its print any more is none, or another line's.
		b := []byte(s)
		b[r.Intn(len(b))] = "0 1_'ax-/"[r.Intn(9)]
		if y, e := Parse(string(b)); e == api.OK {
			if again, _ := Print(y); again != string(b) {
				t.Fatal("two prints", again, string(b))
			}
		}
	}
}
