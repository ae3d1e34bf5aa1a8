package route_test

import (
	"fmt"
	"regexp"
	"slices"
	"strconv"
	"testing"
	"unsafe"

	"pendentive/api"
	"pendentive/route"
)

// rooms are the memory of what is handed in: texts, each with more behind, and lists with more behind.
type rooms struct {
	texts  []held[byte]
	lists  []held[string]
	routes []held[api.Route]
}

// held is a room, and what is in it.
type held[T comparable] struct{ room, was []T }

func hold[T comparable](items, behind []T) held[T] {
	room := slices.Concat(items, behind)
	return held[T]{room, slices.Clone(room)}
}

// text is a text in a room of its own.
func (r *rooms) text(s string) string {
	h := hold([]byte(s), []byte("behind"))
	r.texts = append(r.texts, h)
	return unsafe.String(&h.room[0], len(s))
}

// list is a list of texts in a room of its own, with texts in theirs.
func (r *rooms) list(l []string) []string {
	var own []string
	for _, s := range l {
		own = append(own, r.text(s))
	}
	h := hold(own, []string{"x", "", "/a"})
	r.lists = append(r.lists, h)
	return h.room[:len(l)]
}

// config is a configuration in rooms of its own.
func (r *rooms) config(c api.Config) api.Config {
	var own []api.Route
	for _, one := range c.Routes {
		own = append(own, api.Route{Prefix: r.text(one.Prefix), Protocol: r.text(one.Protocol), To: r.text(one.To)})
	}
	h := hold(own, []api.Route{{Prefix: "/", To: "x"}, {}, {Prefix: "/a", Protocol: "p", To: "y"}})
	r.routes = append(r.routes, h)
	c.Routes = h.room[:len(own)]
	c.Origins = r.list(c.Origins)
	return c
}

// offer is an offer in rooms of its own.
func (r *rooms) offer(o api.Offer) api.Offer {
	return api.Offer{Path: r.text(o.Path), Host: r.text(o.Host), Key: r.text(o.Key), Origin: r.text(o.Origin), Protocols: r.list(o.Protocols)}
}

// stays asks that what was handed in is as it was, and spoils it all then.
func (r *rooms) stays(t *testing.T, call string) {
	t.Helper()
	if !same(r.lists) || !same(r.routes) || !same(r.texts) {
		t.Fatalf("%s: what was handed in is changed", call)
	}
	for _, h := range r.lists {
		clear(h.room)
	}
	for _, h := range r.routes {
		clear(h.room)
	}
	for _, h := range r.texts {
		for i := range h.room {
			h.room[i] ^= 0x55
		}
	}
}

func same[T comparable](all []held[T]) bool {
	for _, h := range all {
		if !slices.Equal(h.room, h.was) {
			return false
		}
	}
	return true
}

// ordinary is a configuration that may be, none of whose numbers lies at an edge.
func ordinary() api.Config {
	return api.Config{
		Routes:  []api.Route{{Prefix: "/", To: "root:80"}, {Prefix: "/a", To: "plain"}, {Prefix: "/a", Protocol: "v1", To: "one"}, {Prefix: "/a", Protocol: "v2", To: "two"}, {Prefix: "/b/", Protocol: "v1", To: "b"}},
		Origins: []string{"http://a.b", "null"},
		Table:   5, Message: 1000, Frame: 500, Count: 30, Bytes: 5000, Out: 700, Shake: 50, Idle: 90, Pong: 30, Close: 40,
	}
}

// least is a configuration that may be, of as little as there can be.
func least() api.Config {
	return api.Config{Routes: []api.Route{{Prefix: "/", To: "a"}}, Table: 1, Message: 1, Frame: 1, Count: 1, Bytes: 1, Out: 1, Shake: 1, Idle: 1, Pong: 1, Close: 1}
}

// greatest is a configuration that may be, of as much as there can be.
func greatest() api.Config {
	return api.Config{
		Routes: routes(16), Origins: texts(16), Table: 64, Message: 65536, Frame: 65536, Count: 1024, Bytes: 4194304, Out: 65536,
		Shake: 1073741824, Idle: 1073741824, Pong: 1073741824, Close: 1073741824,
	}
}

// bases are configurations that may be, each made anew.
var bases = []func() api.Config{ordinary, least, greatest}

// routes is so many routes, each another one.
func routes(n int) []api.Route {
	var l []api.Route
	for i := range n {
		r := api.Route{Prefix: "/" + strconv.Itoa(i/3), To: "to:" + strconv.Itoa(i%7)}
		if i%3 > 0 {
			r.Protocol = "v" + strconv.Itoa(i%3)
		}
		l = append(l, r)
	}
	return l
}

// texts is so many texts, each another one.
func texts(n int) []string {
	var l []string
	for i := range n {
		l = append(l, "t"+strconv.Itoa(i))
	}
	return l
}

var (
	prefixForm   = regexp.MustCompile(`^/[!->@-~]*$`)
	protocolForm = regexp.MustCompile("^[!#$%&'*+\\-.^_`|~0-9A-Za-z]*$")
	toForm       = regexp.MustCompile(`^[!-~]+$`)
)

// mayBe is whether a configuration may be, by the chapter's words, case by case.
func mayBe(c api.Config) bool {
	if len(c.Routes) == 0 || len(c.Routes) >= 17 || len(c.Origins) >= 17 {
		return false
	}
	seen := map[string]bool{}
	for _, r := range c.Routes {
		line := fmt.Sprintf("%q %q %q", r.Prefix, r.Protocol, r.To)
		if seen[line] || !prefixForm.MatchString(r.Prefix) || !protocolForm.MatchString(r.Protocol) || !toForm.MatchString(r.To) {
			return false
		}
		seen[line] = true
	}
	for _, n := range numbers {
		if v := *n.of(&c); v < n.least || v > n.most {
			return false
		}
	}
	return c.Message <= c.Bytes
}

// checks asks that Check answers by what a configuration may be.
func checks(t *testing.T, c api.Config, want bool) {
	t.Helper()
	if mayBe(c) != want {
		t.Fatalf("the reckoning: %s: %t", short(c), !want)
	}
	wantErr := api.Errno(0)
	if !want {
		wantErr = 150
	}
	var r rooms
	err := route.Check(r.config(c))
	r.stays(t, "Check")
	if err != wantErr {
		t.Fatalf("Check of %s: error %d, want %d", short(c), err, wantErr)
	}
}

// short is a thing's first part, as a line.
func short(thing any) string {
	return fmt.Sprintf("%.400s", fmt.Sprintf("%+.60q", thing))
}

// turned is a configuration, changed.
func turned(base func() api.Config, turn func(c *api.Config)) api.Config {
	c := base()
	turn(&c)
	return c
}

// The errors' numbers, as they are written.
func TestNumbers(t *testing.T) {
	if api.OK != 0 || api.ErrRouteForm != 150 || api.MaxList != 16 {
		t.Error(api.OK, api.ErrRouteForm, api.MaxList)
	}
}

// The ways of asking are as the chapter writes them.
var (
	_ func(api.Config) api.Errno                           = route.Check
	_ func(path, prefix string) bool                       = route.Below
	_ func(api.Config, string, []string) (api.Route, bool) = route.Pick
	_ func(api.Config, api.Offer, int) (api.Route, int)    = route.Admit
)
