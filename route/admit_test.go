package route_test

import (
	"math"
	"math/rand/v2"
	"slices"
	"testing"

	"pendentive/api"
	"pendentive/route"
)

// wantAdmit is what Admit ought to answer, by the chapter's words.
func wantAdmit(c api.Config, o api.Offer, sessions int) (api.Route, int) {
	if len(c.Origins) > 0 && !slices.Contains(c.Origins, o.Origin) {
		return api.Route{}, 403
	}
	if r, found := wantPick(c, o.Path, o.Protocols); !found {
		return api.Route{}, 404
	} else if sessions < c.Table {
		return r, 0
	}
	return api.Route{}, 503
}

// admits asks for a status and a route, and tells them; what was handed in is spoilt then, and so is another answer to the same call.
func admits(t *testing.T, c api.Config, o api.Offer, sessions int) (api.Route, int) {
	t.Helper()
	want, status := wantAdmit(c, o, sessions)
	var r rooms
	handed, offer := r.config(c), r.offer(o)
	got, n := route.Admit(handed, offer, sessions)
	other, again := route.Admit(handed, offer, sessions)
	r.stays(t, "Admit")
	if got != want || n != status || other != want || again != status {
		t.Fatalf("Admit of %s, %s, %d: %.80q, %d, then %.80q, %d, want %.80q, %d", short(c), short(o), sessions, got, n, other, again, want, status)
	}
	spoil(other)
	if got != want {
		t.Fatalf("Admit of %s, %s, %d: %.80q, that was %.80q, by a change of another answer", short(c), short(o), sessions, got, want)
	}
	return want, status
}

// refuses asks for a status, and no route.
func refuses(t *testing.T, want int, c api.Config, o api.Offer, sessions int) {
	t.Helper()
	if r, status := admits(t, c, o, sessions); status != want || r != (api.Route{}) {
		t.Fatalf("the reckoning: %s, %d: %.80q, %d, not %d", short(o), sessions, r, status, want)
	}
}

// grants asks for a route that goes there.
func grants(t *testing.T, want string, c api.Config, o api.Offer, sessions int) {
	t.Helper()
	if r, status := admits(t, c, o, sessions); status != 0 || r.To != want {
		t.Fatalf("the reckoning: %s, %d: %.80q, %d, not %q", short(o), sessions, r, status, want)
	}
}

// good is an offer that an ordinary configuration has a route for.
func good() api.Offer {
	return api.Offer{Path: "/a/b?c", Host: "h", Key: "dGhlIHNhbXBsZSBub25jZQ==", Origin: "null", Protocols: []string{"v2", "v1"}}
}

// P15.2: the route, and 0, as long as there are fewer sessions than Table.
func TestAdmit(t *testing.T) {
	for sessions := -3; sessions < 5; sessions++ {
		grants(t, "one", ordinary(), good(), sessions)
	}
	o := good()
	o.Protocols = []string{"v2"}
	grants(t, "two", ordinary(), o, 0)
	o.Protocols = nil
	grants(t, "plain", ordinary(), o, 0)
	o.Path = "/x"
	grants(t, "root:80", ordinary(), o, 0)
	o.Path, o.Protocols = "/b/", []string{"v1"}
	grants(t, "b", ordinary(), o, 0)
	grants(t, "a", least(), api.Offer{Path: "/"}, 0)
	r, status := route.Admit(ordinary(), good(), 4)
	if r != (api.Route{Prefix: "/a", Protocol: "v1", To: "one"}) || status != 0 {
		t.Errorf("%q, %d", r, status)
	}
}

// P15.2: 503 where sessions are Table or more, whatever Table is.
func TestAdmitSessions(t *testing.T) {
	for _, table := range []int{1, 2, 5, 63, 64, 65, 1000, 1 << 31, 1 << 32, 1<<32 + 5, math.MaxInt - 1, math.MaxInt, 0, -1, -64, -1 << 32, math.MinInt + 1, math.MinInt} {
		c := turned(ordinary, func(c *api.Config) { c.Table = table })
		refuses(t, 503, c, good(), table)
		refuses(t, 503, c, good(), math.MaxInt)
		if table > math.MinInt {
			grants(t, "one", c, good(), table-1)
			grants(t, "one", c, good(), math.MinInt)
		}
		if table < math.MaxInt {
			refuses(t, 503, c, good(), table+1)
		}
		for _, sessions := range []int{-2, -1, 0, 1, 2, 4, 5, 6, 62, 63, 64, 65, 1 << 31, 1<<32 - 1, 1 << 32, 1<<32 + 1, -1 << 32, 5 - 1<<32, 1 << 62, math.MinInt, math.MinInt + 1, math.MaxInt - 1, math.MaxInt} {
			_, status := admits(t, c, good(), sessions)
			if (status == 503) != (sessions >= table) || status != 503 && status != 0 {
				t.Fatalf("the reckoning: %d sessions, Table %d: %d", sessions, table, status)
			}
		}
	}
}

// P15.2: 403 where an origin is refused: byte by byte; nobody is, where none are listed.
func TestAdmitOrigin(t *testing.T) {
	for _, origin := range []string{"", "Null", "null ", " null", "nul", "nulll", "http://a.b/", "http://a.B", "http://a.b, null", "*", "\x00", "h"} {
		o := good()
		o.Origin = origin
		refuses(t, 403, ordinary(), o, 0)
		grants(t, "one", turned(ordinary, func(c *api.Config) { c.Origins = nil }), o, 0)
		grants(t, "one", turned(ordinary, func(c *api.Config) { c.Origins = []string{} }), o, 0)
		grants(t, "one", turned(ordinary, func(c *api.Config) { c.Origins = []string{origin} }), o, 0)
		grants(t, "one", turned(ordinary, func(c *api.Config) { c.Origins = append(texts(15), origin) }), o, 0)
		grants(t, "one", turned(ordinary, func(c *api.Config) { c.Origins = append(texts(30), origin, "x") }), o, 0)
		refuses(t, 403, turned(ordinary, func(c *api.Config) { c.Origins = []string{"x", origin + "x"} }), o, 0)
	}
	for _, origin := range ordinary().Origins {
		o := good()
		o.Origin = origin
		grants(t, "one", ordinary(), o, 0)
	}
}

// P15.2: 404 where no route fits: by the path, or by the protocols.
func TestAdmitPath(t *testing.T) {
	for _, path := range []string{"", "a", "?", "?/a", "a/", "*", "\xff"} {
		o := good()
		o.Path = path
		refuses(t, 404, ordinary(), o, 0)
	}
	refuses(t, 404, turned(ordinary, func(c *api.Config) { c.Routes = nil }), good(), 0)
	c := turned(ordinary, func(c *api.Config) { c.Routes = c.Routes[2:] })
	for _, protocols := range [][]string{nil, {}, {""}, {"v3"}, {"V1"}, {"v1, v2"}, {"v", "1"}} {
		o := good()
		o.Protocols = protocols
		refuses(t, 404, c, o, 0)
		grants(t, "plain", ordinary(), o, 0)
	}
	grants(t, "one", c, good(), 0)
}

// P15.2: which status comes first, where several are so: 403, then 404, then 503; and with none of them a route.
func TestAdmitOrder(t *testing.T) {
	wrongOrigin := func(o *api.Offer) { o.Origin = "x" }
	wrongPath := func(o *api.Offer) { o.Path = "x" }
	for way := range 8 {
		o, sessions, want := good(), 4, 0
		if way&4 != 0 {
			sessions, want = 5, 503
		}
		if way&2 != 0 {
			wrongPath(&o)
			want = 404
		}
		if way&1 != 0 {
			wrongOrigin(&o)
			want = 403
		}
		r, status := route.Admit(ordinary(), o, sessions)
		if status != want || (r == api.Route{}) != (want != 0) {
			t.Errorf("way %d: %q, %d, want %d", way, r, status, want)
		}
		admits(t, ordinary(), o, sessions)
		if want != 0 {
			refuses(t, want, ordinary(), o, sessions)
		}
	}
}

// P15.2: Host and Key don't matter.
func TestAdmitTheRest(t *testing.T) {
	for _, s := range []string{"", "x", "null", "/", "\xff", "http://a.b"} {
		o := good()
		o.Host, o.Key = s, s
		grants(t, "one", ordinary(), o, 0)
		o.Origin = "y"
		refuses(t, 403, ordinary(), o, 0)
	}
}

// P15.2: configurations that may not be, and offers that are nothing.
func TestAdmitAny(t *testing.T) {
	refuses(t, 404, api.Config{}, api.Offer{}, 0)
	refuses(t, 404, api.Config{}, api.Offer{}, math.MinInt)
	refuses(t, 503, from(api.Route{}), api.Offer{}, 0)
	grants(t, "", from(api.Route{}), api.Offer{}, -1)
	refuses(t, 403, ordinary(), api.Offer{}, 0)
	for _, wrong := range wrongs {
		for _, base := range bases {
			for _, o := range []api.Offer{{}, good(), {Path: "/", Origin: "t3"}, {Path: "/0/x?y", Origin: "t16", Protocols: []string{"v1"}}, {Path: "a", Origin: "null"}} {
				for _, sessions := range []int{-1, 0, 1, 5, 63, 64} {
					admits(t, turned(base, wrong), o, sessions)
				}
			}
		}
	}
}

// P15.2: configurations, offers and sessions that are drawn: all statuses, often.
func TestAdmitDrawn(t *testing.T) {
	r := rand.New(rand.NewPCG(15, 2))
	times := map[int]int{}
	for range 10_000 {
		c := api.Config{Routes: drawnRoutes(r, 16), Origins: texts(r.IntN(4)), Table: 1 + r.IntN(4)}
		o := api.Offer{Path: drawnPath(r, 5), Origin: texts(3)[r.IntN(3)], Protocols: []string{"qq", "r", "p", "P", "x"}[r.IntN(3):][:r.IntN(3)]}
		_, status := admits(t, c, o, r.IntN(6)-1)
		times[status]++
	}
	for _, status := range []int{0, 403, 404, 503} {
		if times[status] < 300 {
			t.Errorf("%d: %d times alone", status, times[status])
		}
	}
}
