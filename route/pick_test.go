package route_test

import (
	"math/rand/v2"
	"slices"
	"sort"
	"strconv"
	"strings"
	"testing"

	"pendentive/api"
	"pendentive/route"
)

// wantPick is the route that Pick ought to find, by the chapter's words: all that fit, put in order.
func wantPick(c api.Config, path string, protocols []string) (api.Route, bool) {
	var fit []api.Route
	for _, r := range c.Routes {
		if allBelow(path)[r.Prefix] && slices.Contains(append([]string{""}, protocols...), r.Protocol) {
			fit = append(fit, r)
		}
	}
	sort.SliceStable(fit, func(i, k int) bool {
		if len(fit[i].Prefix) == len(fit[k].Prefix) {
			return fit[i].Protocol != "" && fit[k].Protocol == ""
		}
		return len(fit[i].Prefix) > len(fit[k].Prefix)
	})
	if len(fit) == 0 {
		return api.Route{}, false
	}
	return fit[0], true
}

// picks asks for a route, and tells it; what was handed in is spoilt then, and so is another answer to the same call.
func picks(t *testing.T, c api.Config, path string, protocols ...string) (api.Route, bool) {
	t.Helper()
	want, is := wantPick(c, path, protocols)
	var r rooms
	handed, at, offered := r.config(c), r.text(path), r.list(protocols)
	got, found := route.Pick(handed, at, offered)
	other, again := route.Pick(handed, at, offered)
	r.stays(t, "Pick")
	if got != want || found != is || other != want || again != is {
		t.Fatalf("Pick of %s, %.80q, %s: %.80q, %t, then %.80q, %t, want %.80q, %t", short(c.Routes), path, short(protocols), got, found, other, again, want, is)
	}
	spoil(other)
	if got != want {
		t.Fatalf("Pick of %s, %.80q, %s: %.80q, that was %.80q, by a change of another answer", short(c.Routes), path, short(protocols), got, want)
	}
	return want, is
}

// from is a configuration of routes alone: what else there is doesn't matter to Pick.
func from(l ...api.Route) api.Config { return api.Config{Routes: l} }

// to asks that a route is found which goes there.
func to(t *testing.T, want string, c api.Config, path string, protocols ...string) {
	t.Helper()
	if r, found := picks(t, c, path, protocols...); !found || r.To != want {
		t.Fatalf("the reckoning: %.80q, %s: %.80q, %t", path, short(protocols), r, found)
	}
}

// none asks that no route is found.
func none(t *testing.T, c api.Config, path string, protocols ...string) {
	t.Helper()
	if r, found := picks(t, c, path, protocols...); found || r != (api.Route{}) {
		t.Fatalf("the reckoning: %.80q, %s: %.80q, %t", path, short(protocols), r, found)
	}
}

// P15.1: no routes.
func TestPickNoRoutes(t *testing.T) {
	for _, path := range []string{"", "/", "/a", "?"} {
		none(t, api.Config{}, path)
		none(t, from([]api.Route{}...), path, "", "a")
		none(t, from(routes(3)[:0]...), path, "v1")
	}
}

// P15.1: one route: by the path, and by the protocols that are offered.
func TestPickOne(t *testing.T) {
	plain := from(api.Route{Prefix: "/a", To: "x"})
	for _, protocols := range [][]string{nil, {}, {""}, {"p"}, {"p", "q"}} {
		to(t, "x", plain, "/a", protocols...)
		to(t, "x", plain, "/a/b?c", protocols...)
		to(t, "x", plain, "/a?b", protocols...)
		none(t, plain, "/", protocols...)
		none(t, plain, "", protocols...)
		none(t, plain, "/ab", protocols...)
		none(t, plain, "/b/a", protocols...)
	}
	with := from(api.Route{Prefix: "/a", Protocol: "p", To: "x"})
	for _, protocols := range [][]string{{"p"}, {"p", "q"}, {"q", "p"}, {"p", "p"}, {"", "p"}, {"q", "r", "p", "s"}, append(texts(1000), "p")} {
		to(t, "x", with, "/a", protocols...)
		to(t, "x", with, "/a/b", protocols...)
		none(t, with, "/b", protocols...)
	}
	upper := from(api.Route{Prefix: "/a", Protocol: "P.q", To: "x"})
	to(t, "x", upper, "/a", "p.q", "P.q")
	none(t, upper, "/a", "p.q", "P.Q", "P")
	for _, protocols := range [][]string{nil, {}, {""}, {"q"}, {"P"}, {"p "}, {" p"}, {"pp"}, {"p, q"}, {"p\x00"}, {"/a"}, {"x"}, {"q", "r"}, texts(1000)} {
		none(t, with, "/a", protocols...)
		none(t, with, "/a/b", protocols...)
	}
}

// P15.1: of prefixes of different lengths the longest one, wherever it stands, with a Protocol and without.
func TestPickLongest(t *testing.T) {
	l := []api.Route{{Prefix: "/", To: "1"}, {Prefix: "/a", To: "2"}, {Prefix: "/a/", To: "3"}, {Prefix: "/a/b", To: "4"}, {Prefix: "/a/b/c", To: "5"}}
	for range l {
		for range 2 {
			c := from(l...)
			to(t, "5", c, "/a/b/c")
			to(t, "5", c, "/a/b/c/d?e")
			to(t, "4", c, "/a/b/d")
			to(t, "4", c, "/a/b?/c")
			to(t, "3", c, "/a/bc")
			to(t, "3", c, "/a/?b")
			to(t, "2", c, "/a")
			to(t, "2", c, "/a?/b")
			to(t, "1", c, "/ab")
			to(t, "1", c, "/")
			to(t, "1", c, "//a")
			none(t, c, "")
			none(t, c, "a")
			none(t, c, "?/a")
			slices.Reverse(l)
		}
		l = append(slices.Clone(l[1:]), l[0])
	}
}

// P15.1: the length of a prefix goes ahead of a Protocol.
func TestPickLongerAheadOfProtocol(t *testing.T) {
	short, long := api.Route{Prefix: "/a", Protocol: "p", To: "short"}, api.Route{Prefix: "/a/", To: "long"}
	for _, c := range []api.Config{from(short, long), from(long, short)} {
		to(t, "long", c, "/a/b", "p")
		to(t, "long", c, "/a/b")
		to(t, "short", c, "/a", "p")
		none(t, c, "/a")
	}
	long.Protocol = "q"
	for _, c := range []api.Config{from(short, long), from(long, short)} {
		to(t, "long", c, "/a/b", "p", "q")
		to(t, "short", c, "/a/b", "p")
		to(t, "long", c, "/a/b", "q")
		none(t, c, "/a/b")
	}
}

// P15.1: of the same length one with a Protocol ahead of one without, wherever they stand, if it is offered.
func TestPickProtocol(t *testing.T) {
	without, with := api.Route{Prefix: "/a", To: "without"}, api.Route{Prefix: "/a", Protocol: "p", To: "with"}
	for _, c := range []api.Config{from(without, with), from(with, without), from(without, without, with, without), from(without, with, with, without)} {
		to(t, "with", c, "/a", "p")
		to(t, "with", c, "/a/b", "q", "p")
		to(t, "without", c, "/a")
		to(t, "without", c, "/a/b", "q")
		to(t, "without", c, "/a?p", "")
	}
}

// P15.1: else the first one: among several that are offered as the routes stand, not as they are offered; among several without a Protocol too.
func TestPickFirst(t *testing.T) {
	l := []api.Route{{Prefix: "/a", Protocol: "p", To: "p"}, {Prefix: "/a", Protocol: "q", To: "q"}, {Prefix: "/a", Protocol: "r", To: "r"}, {Prefix: "/a", To: "first"}, {Prefix: "/a", To: "second"}}
	c := from(l...)
	for _, protocols := range [][]string{{"p", "q", "r"}, {"r", "q", "p"}, {"q", "p", "r"}, {"r", "p"}} {
		to(t, "p", c, "/a", protocols...)
	}
	to(t, "q", c, "/a", "r", "q")
	to(t, "q", c, "/a", "q", "r", "x")
	to(t, "r", c, "/a", "r")
	to(t, "first", c, "/a")
	to(t, "first", c, "/a/b", "x")
	slices.Reverse(l)
	to(t, "r", from(l...), "/a", "p", "q", "r")
	to(t, "q", from(l...), "/a", "p", "q")
	to(t, "second", from(l...), "/a")
	for _, names := range [][]string{{"a", "bbb", "cc"}, {"ccc", "b", "aa"}, {"B", "a", "C"}, {"aa", "aaa", "a"}} {
		l := []api.Route{{Prefix: "/a", Protocol: names[0], To: "0"}, {Prefix: "/a", Protocol: names[1], To: "1"}, {Prefix: "/a", Protocol: names[2], To: "2"}}
		to(t, "0", from(l...), "/a", names...)
		to(t, "1", from(l...), "/a", names[2], names[1])
		to(t, "2", from(l...), "/a", names[2])
	}
	for n := 2; n < 20; n++ {
		var same []api.Route
		for i := range n {
			same = append(same, api.Route{Prefix: "/a", Protocol: "p", To: strconv.Itoa(i)})
		}
		to(t, "0", from(same...), "/a", "p")
		for i := range same {
			same[i].Protocol = ""
		}
		to(t, "0", from(same...), "/a", "p")
	}
}

// P15.1: what the route is: all its fields, as they stand.
func TestPickTellsAll(t *testing.T) {
	for _, r := range []api.Route{{Prefix: "/a", Protocol: "p", To: "t"}, {Prefix: "/a"}, {Prefix: "/", To: "/a?b"}, {}, {To: "x"}, {Protocol: "p"}, {Prefix: "/a/", Protocol: "v.1", To: "[::1]:80"}} {
		if got, found := route.Pick(from(r), "/a/b", []string{"p", "v.1"}); got != r || !found {
			t.Errorf("Pick: %q, %t, want %q", got, found, r)
		}
	}
}

// P15.1: configurations that may not be are asked too: any prefixes, protocols and numbers, the same route twice, and more of them.
func TestPickAny(t *testing.T) {
	c := from(api.Route{To: "empty"}, api.Route{Prefix: "a", To: "no /"}, api.Route{Prefix: "/a?", To: "?"}, api.Route{Prefix: "\xff", Protocol: " ", To: ""}, api.Route{Prefix: "\xff", To: "\x00"})
	to(t, "empty", c, "")
	to(t, "empty", c, "/a")
	to(t, "empty", c, "?a")
	to(t, "empty", c, "/a?")
	to(t, "no /", c, "a")
	to(t, "no /", c, "a/b")
	none(t, c, "b")
	to(t, "", c, "\xff", " ")
	to(t, "\x00", c, "\xff/", "p")
	none(t, c, "\xfe")
	to(t, "twice", from(api.Route{Prefix: "/", To: "twice"}, api.Route{Prefix: "/", To: "twice"}), "/")
	for _, n := range []int{17, 100, 1000} {
		many := routes(n)
		for i := 0; i < n; i += 1 + n/20 {
			to(t, many[i].To, from(many...), many[i].Prefix+"/x", many[i].Protocol)
		}
		none(t, from(many...), "/", "v1", "v2")
	}
	for _, wrong := range wrongs {
		for _, base := range bases {
			c := turned(base, wrong)
			for _, path := range []string{"", "/", "/a", "/a/b", "/0/x", "/3", "/b/", "a"} {
				picks(t, c, path)
				picks(t, c, path, "v1", "v2")
				picks(t, c, path, "v2", "a b")
			}
		}
	}
}

// P15.1: nothing but routes matters: neither origins nor numbers.
func TestPickRoutesAlone(t *testing.T) {
	for _, base := range bases {
		for _, path := range []string{"/", "/a", "/a/b", "/b/c", "/0", "/3/x", "/4", "x"} {
			for _, protocols := range [][]string{nil, {"v1"}, {"v2"}, {"v2", "v1"}} {
				want, is := picks(t, base(), path, protocols...)
				if got, found := picks(t, from(base().Routes...), path, protocols...); got != want || found != is {
					t.Errorf("%q and %q", got, want)
				}
			}
		}
	}
}

// P15.1: all lists of up to three routes of some kinds, and some paths and protocols.
func TestPickEvery(t *testing.T) {
	var kinds []api.Route
	for _, prefix := range []string{"", "/", "/a", "/a/", "/a/b", "/b"} {
		for _, protocol := range []string{"", "p", "q"} {
			kinds = append(kinds, api.Route{Prefix: prefix, Protocol: protocol})
		}
	}
	rows := 1
	for n := range 4 {
		for row := range rows {
			var l []api.Route
			for i := range n {
				r := kinds[row%len(kinds)]
				r.To = strconv.Itoa(i)
				l = append(l, r)
				row /= len(kinds)
			}
			for _, path := range []string{"", "/", "/a", "/a/b?c", "/ab", "/b?/a", "?"} {
				for _, protocols := range [][]string{nil, {"p"}, {"q", "p"}, {"r", ""}} {
					want, is := wantPick(from(l...), path, protocols)
					if got, found := route.Pick(from(l...), path, protocols); got != want || found != is {
						t.Fatalf("Pick of %q, %q, %q: %q, %t, want %q, %t", l, path, protocols, got, found, want, is)
					}
				}
			}
		}
		rows *= len(kinds)
	}
}

// drawnRoutes is routes that are drawn, below each other often.
func drawnRoutes(r *rand.Rand, most int) []api.Route {
	l := make([]api.Route, r.IntN(most+1))
	for i := range l {
		l[i] = api.Route{Prefix: drawnPath(r, 3), Protocol: []string{"", "", "p", "P", "qq", "r1", "r"}[r.IntN(7)], To: strconv.Itoa(i)}
	}
	return l
}

// drawnPath is a path that is drawn, of so many pieces at most.
func drawnPath(r *rand.Rand, most int) string {
	s := "/"
	for range r.IntN(most + 1) {
		s += []string{"a", "b", "ab", "a/", "/", "/a", "/b", "/ab"}[r.IntN(8)]
	}
	return s
}

// P15.1: routes, paths and protocols that are drawn.
func TestPickDrawn(t *testing.T) {
	r := rand.New(rand.NewPCG(15, 4))
	found := 0
	for range 20_000 {
		c := from(drawnRoutes(r, 20)...)
		path := drawnPath(r, 5)
		if r.IntN(3) == 0 {
			path += "?" + drawnPath(r, 3)
		}
		protocols := []string{"r", "p", "x", "qq", "", "P", "r1"}
		r.Shuffle(7, func(i, k int) { protocols[i], protocols[k] = protocols[k], protocols[i] })
		if _, is := picks(t, c, path, protocols[:r.IntN(8)]...); is {
			found++
		}
	}
	if found < 8000 || found > 19_000 {
		t.Errorf("%d were found", found)
	}
}

// P1 and P15.1: many routes, many protocols and long paths, in good time.
func TestPickMany(t *testing.T) {
	const n = 1 << 19
	many := make([]api.Route, n)
	for i := range many {
		many[i] = api.Route{Prefix: "/a", Protocol: "none" + strconv.Itoa(i), To: strconv.Itoa(i)}
	}
	protocols := texts(n)
	path := "/a?" + strings.Repeat("b", 1<<20)
	if r, found := route.Pick(from(many...), path, protocols); found || r != (api.Route{}) {
		t.Errorf("Pick: %q, %t", r, found)
	}
	protocols[n-1] = "none77777"
	if r, found := route.Pick(from(many...), path, protocols); !found || r != many[77777] {
		t.Errorf("Pick: %q, %t", r, found)
	}
	path = strings.Repeat("/", 1<<22)
	if r, found := route.Pick(from(append(many, api.Route{Prefix: "/", To: "x"})...), path, protocols); !found || r.To != "x" {
		t.Errorf("Pick: %q, %t", r, found)
	}
}
