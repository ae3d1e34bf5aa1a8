package route_test

import (
	"math"
	"runtime"
	"slices"
	"strings"
	"testing"
	"unsafe"

	"pendentive/api"
	"pendentive/route"
)

// spoil changes the memory of a route that was handed out. A text of one byte may be memory that isn't anybody's own.
func spoil(r api.Route) {
	for _, s := range []string{r.Prefix, r.Protocol, r.To} {
		if len(s) < 2 {
			continue
		}
		b := unsafe.Slice(unsafe.StringData(s), len(s))
		for i := range b {
			b[i] ^= 0x55
		}
	}
}

// The rules: what is handed back shares no memory with what was handed in: whatever is done to it, the configuration, the path and the protocols stay.
func TestRoutesAreNew(t *testing.T) {
	long := strings.Repeat("long", 1000)
	for _, want := range []api.Route{
		{Prefix: "/a", Protocol: "v1", To: "one"}, {Prefix: "/" + long, Protocol: long, To: long}, {Prefix: "/a"}, {Prefix: "/a", To: "to"}, {Prefix: "/abc", Protocol: "v1"}, {},
	} {
		c := api.Config{Routes: []api.Route{want, want}, Origins: []string{"origin", want.To}, Table: 2}
		o := api.Offer{Path: want.Prefix + "/more", Host: want.To, Origin: want.To, Protocols: []string{"x", want.Protocol}}
		var r rooms
		handed, offer := r.config(c), r.offer(o)
		one, found := route.Pick(handed, offer.Path, offer.Protocols)
		other, status := route.Admit(handed, offer, 1)
		if one != want || !found || other != want || status != 0 {
			t.Fatalf("Pick: %.80q, %t, Admit: %.80q, %d, want %.80q", one, found, other, status, want)
		}
		spoil(one)
		if other != want {
			t.Errorf("%.80q, that was %.80q, by a change of another answer", other, want)
		}
		spoil(other)
		r.stays(t, "Pick and Admit")
	}
}

// The rules: a route's three texts share no memory with each other either, though they are one text in the configuration.
func TestTextsAreTheirOwn(t *testing.T) {
	text := strings.Repeat("/", 10)
	got, _ := route.Pick(from(api.Route{Prefix: text, Protocol: text, To: text}), text, []string{text})
	want := strings.Clone(text)
	b := unsafe.Slice(unsafe.StringData(got.Prefix), len(got.Prefix))
	clear(b)
	if got.Protocol != want || got.To != want || text != want {
		t.Errorf("%q, %q, that were %q", got, text, want)
	}
}

// The rules: lists are neither changed in their spare room, nor put in another order, by calls of all kinds.
func TestListsStay(t *testing.T) {
	c := turned(greatest, func(c *api.Config) {
		slices.Reverse(c.Routes)
		slices.Reverse(c.Origins)
	})
	o := api.Offer{Path: "/3/x", Origin: "t7", Protocols: []string{"v2", "a", "v1", "v2"}}
	for _, sessions := range []int{0, 64} {
		var r rooms
		handed, offer := r.config(c), r.offer(o)
		for range 3 {
			route.Check(handed)
			route.Pick(handed, offer.Path, offer.Protocols)
			route.Admit(handed, offer, sessions)
			route.Below(offer.Path, handed.Routes[0].Prefix)
		}
		r.stays(t, "calls of all kinds")
	}
}

// One answer: the same calls answer the same, in whatever order they are made.
func TestOneAnswer(t *testing.T) {
	c, o := greatest(), api.Offer{Path: "/3/x", Origin: "t7", Protocols: []string{"v2", "v1"}}
	want, _ := wantPick(c, o.Path, o.Protocols)
	for i := range 1000 {
		if i%3 == 0 {
			route.Check(api.Config{Routes: routes(i % 20)})
			route.Pick(ordinary(), "/a", []string{"v2"})
			route.Admit(ordinary(), good(), i)
		}
		r, found := route.Pick(c, o.Path, o.Protocols)
		other, status := route.Admit(c, o, 63)
		if r != want || !found || other != want || status != 0 || route.Check(c) != 0 {
			t.Fatalf("call %d: %q, %t, %q, %d, want %q", i, r, found, other, status, want)
		}
	}
}

// What is kept is nothing: not what was handed in, nor what was handed out.
func TestKeepsNothing(t *testing.T) {
	before := inUse()
	for i := range 50 {
		long := strings.Repeat("/"+string(rune('a'+i%26)), 100_000)
		c := turned(ordinary, func(c *api.Config) { c.Routes[0].Prefix, c.Routes[0].To = long, long })
		route.Check(c)
		route.Below(long, long)
		route.Pick(c, long, []string{long})
		route.Admit(c, api.Offer{Path: long, Origin: "null"}, 0)
	}
	if more := inUse() - before; more > 1_000_000 {
		t.Errorf("%d bytes are kept", more)
	}
}

// inUse is how many bytes of memory are in use.
func inUse() int {
	runtime.GC()
	runtime.GC()
	var m runtime.MemStats
	runtime.ReadMemStats(&m)
	return int(m.HeapAlloc)
}

// P1: every call answers and none panics, whatever it is given.
func FuzzCalls(f *testing.F) {
	f.Add("/a/b?c", "/a", "v1", "to", "origin", 5, 0)
	f.Add("", "", "", "", "", 0, 0)
	f.Add("?", "/", "a b", " ", "", 1, math.MinInt)
	f.Add("/a", "/a/", "\xff", "\x00", "x", math.MaxInt, math.MaxInt)
	f.Add("//", "/", "p", "a?b", "x", 1<<30+1, -1)
	f.Fuzz(func(t *testing.T, path, prefix, protocol, to, origin string, number, sessions int) {
		l := []api.Route{{Prefix: prefix, Protocol: protocol, To: to}, {Prefix: prefix, To: to}, {Prefix: "/", To: "b"}, {Prefix: path, Protocol: "q", To: "c"}, {Prefix: "/a", Protocol: "p", To: origin}}
		below(t, path, prefix, allBelow(path)[prefix])
		below(t, prefix, path, allBelow(prefix)[path])
		for i := range 10 {
			c := turned(ordinary, func(c *api.Config) {
				c.Routes, c.Origins = l[i%5:], []string{origin, "null"}[:i%3]
				*numbers[i].of(c) = number
			})
			checks(t, c, mayBe(c))
			picks(t, c, path, "q", protocol)
			picks(t, c, prefix, origin)
			admits(t, c, api.Offer{Path: path, Host: to, Origin: origin, Protocols: []string{protocol, "p"}}, sessions)
			admits(t, c, api.Offer{Path: path, Key: to, Origin: to}, c.Table-1)
		}
	})
}
