package proxy

import (
	"maps"
	"slices"

	"pursebearer/admit"
	"pursebearer/api"
	"pursebearer/call"
	"pursebearer/ctx"
	"pursebearer/draw"
	"pursebearer/lease"
	"pursebearer/outlier"
	"pursebearer/rewrite"
	"pursebearer/snap"
	"pursebearer/split"
	"pursebearer/token"
)

// version is what a proxy has of a version.
type version struct {
	*snap.Snap
	buckets []*token.Bucket // by rule
	counts  []int           // calls that went by each rule
	clients []*lease.Client // the rate n's stands at n - 1
	parts   map[int]*part   // by service, from when an attempt first is for it
}

// part is what a proxy has of a service.
type part struct {
	guard *outlier.Guard
	gate  *admit.Gate
	loads map[int]int // by endpoint
}

func newVersion(s *snap.Snap) *version {
	v := &version{Snap: s, counts: make([]int, s.T.Len()), parts: map[int]*part{}}
	for _, r := range v.C.Rules {
		v.buckets = append(v.buckets, token.New(r.P.Budget))
	}
	for _, r := range v.C.Rates {
		v.clients = append(v.clients, lease.NewClient(r))
	}
	return v
}

// ids are the IDs of a service's endpoints, rising.
func (v *version) ids(service int) []int {
	var ids []int
	for _, e := range v.Ends(service) {
		ids = append(ids, e.ID)
	}
	return ids
}

// part is what there is of a service, from now on at least.
func (v *version) part(service int) *part {
	x := v.parts[service]
	if x == nil {
		x = &part{outlier.New(v.C.Watch, v.ids(service)), admit.New(v.C.Low, v.C.High, v.C.Wait), map[int]int{}}
		v.parts[service] = x
	}
	return x
}

// load is how many attempts each endpoint has.
func (x *part) load() []api.Load {
	var l []api.Load
	for _, id := range slices.Sorted(maps.Keys(x.loads)) {
		l = append(l, api.Load{ID: id, N: x.loads[id]})
	}
	return l
}

// free takes an attempt off an endpoint.
func (x *part) free(end int) {
	x.loads[end]--
	if x.loads[end] == 0 {
		delete(x.loads, end)
	}
}

// flow is a call that is under way.
type flow struct {
	id      int
	c       api.Ctx
	k       *call.Call
	v       *version
	rule    api.Rule
	bucket  *token.Bucket
	count   int // how many calls went by the rule, it too
	service int
	zone    int
	path    string // rewritten, as the heads
	heads   []api.Head
	begun   bool
}

func newFlow(v *version, n int, c api.Ctx, path string, heads []api.Head, zone int) *flow {
	rule, bucket := v.T.Rule(n), v.buckets[n]
	return &flow{
		c: c, k: call.New(c, rule.P, bucket), v: v, rule: rule, bucket: bucket, count: v.counts[n],
		service: split.Pick(rule.Parts, draw.Hash(ctx.Key(c))), zone: zone,
		path: rewrite.Path(rule, path), heads: rewrite.Heads(rule, heads),
	}
}

// attempt is an attempt that is the proxy's.
type attempt struct {
	c     api.Ctx
	f     *flow
	item  int
	gated bool // whether it is at the gate: it waits there, or was let go on by it
	waits bool
	sent  bool
	end   int // to which endpoint, and when
	at    int
}

// name is what the attempt is called.
func (a *attempt) name() string { return ctx.Span(a.c) }
