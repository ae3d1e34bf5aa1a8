package leg_test

import (
	"fmt"
	"math"
	"runtime"
	"strings"
	"testing"
	"unsafe"

	"pendentive/api"
	"pendentive/leg"
)

// rough is a side to which all is handed in with other bytes round it, that are held against what they were, and spoilt, behind each call; and so is what it hands out.
type rough struct {
	*leg.Leg
	t testing.TB
}

// room is bytes with others round them.
type room struct {
	all, before []byte
	from, to    int
}

func roomOf(data string) *room {
	all := []byte("ahead of it" + data + "behind it, with some more")
	return &room{all: all, before: []byte(string(all)), from: 11, to: 11 + len(data)}
}

func (r *room) bytes() []byte { return r.all[r.from:r.to] }

func (r *room) text() string { return unsafe.String(&r.all[r.from], r.to-r.from) }

// spoil spoils the room, that must be what it was.
func (r *room) spoil(t testing.TB, what string) {
	t.Helper()
	if string(r.all) != string(r.before) {
		t.Fatalf("%s: what was handed in is changed", what)
	}
	for i := range r.all {
		r.all[i] = 0xee
	}
}

func (r rough) Feed(b []byte) []api.Event {
	in := roomOf(string(b))
	told := r.Leg.Feed(in.bytes())
	in.spoil(r.t, "Feed")
	out := make([]api.Event, len(told))
	for i, e := range told {
		out[i] = api.Event{Op: e.Op, Code: e.Code, Data: strings.Clone(e.Data)}
	}
	for i := range told {
		spoilText(told[i].Data)
		for k, other := range told {
			if k > i && other.Data != out[k].Data {
				r.t.Fatalf("Feed: events %d and %d share memory", i, k)
			}
		}
	}
	told = told[:cap(told)]
	for i := range told {
		told[i] = api.Event{Op: 77, Data: "spoilt"}
	}
	return out
}

func (r rough) Send(e api.Event) bool {
	in := roomOf(e.Data)
	is := r.Leg.Send(api.Event{Op: e.Op, Code: e.Code, Data: in.text()})
	in.spoil(r.t, "Send")
	return is
}

func (r rough) Ping(data string) bool {
	in := roomOf(data)
	is := r.Leg.Ping(in.text())
	in.spoil(r.t, "Ping")
	return is
}

func (r rough) Close(code int, words string) bool {
	in := roomOf(words)
	is := r.Leg.Close(code, in.text())
	in.spoil(r.t, "Close")
	return is
}

func (r rough) Peek(n int) []byte { return own(r.Leg.Peek(n)) }

func (r rough) Take(n int) []byte { return own(r.Leg.Take(n)) }

// own is bytes like those that were handed out, which are spoilt, with their spare room.
func own(b []byte) []byte {
	out := []byte(string(b))
	b = b[:cap(b)]
	for i := range b {
		b[i] ^= 0x55
	}
	return out
}

// spoilText changes the memory of what was handed out. A text of one byte may be memory that isn't anybody's own.
func spoilText(s string) {
	if len(s) < 2 {
		return
	}
	b := unsafe.Slice(unsafe.StringData(s), len(s))
	for i := range b {
		b[i] ^= 0x55
	}
}

// The rules: nothing that was handed in is changed or kept, and what is handed back shares no memory with the side, nor two answers with each other; two sides, of one configuration, don't touch each other, whatever is done to them by turns.
func TestRoughActs(t *testing.T) {
	for seed := range uint64(3000) {
		draw := seeded(1<<33 + seed)
		c, _ := drawnConfig(draw)
		type pair struct {
			l    rough
			s    *side
			flow *flow
		}
		var pairs []pair
		for i := range 3 {
			masked, first := draw(2) == 0, uint32(draw(math.MaxUint32))
			l, s := both(t, c, masked, first)
			pairs = append(pairs, pair{rough{l, t}, s, &flow{draw: draw, masked: masked, message: c.Message, wrong: pick(draw, 3, 12, 100) + i}})
		}
		for i := range 120 {
			p := pairs[draw(len(pairs))]
			holdAct(t, fmt.Sprintf("seed %d, act %d", seed, i), p.l, p.s, p.flow.act(c))
		}
		for _, p := range pairs {
			holdAct(t, fmt.Sprintf("seed %d, drained", seed), p.l, p.s, act{kind: "take", n: c.Out})
		}
	}
}

// The rules: the same bytes fed to two sides, and the same message sent by two, and one's output fed to the other.
func TestTwoSides(t *testing.T) {
	c := config(300, 3, 7)
	server, client := made(t, c, true, 0), made(t, c, false, 77)
	var atServer, atClient, byServer, byClient []api.Event
	for i := range 3000 {
		e := api.Event{Op: 1 + i%2, Data: strings.Repeat("\u00e9x", i%50)}
		if client.Free() && client.Send(e) {
			byClient = append(byClient, e)
		}
		if i%3 > 0 && server.Free() && server.Send(e) {
			byServer = append(byServer, e)
		}
		if i%11 == 0 {
			client.Ping("are you there")
		}
		atServer = append(atServer, server.Feed(client.Take(i%9))...)
		atClient = append(atClient, client.Feed(server.Take(i%8))...)
	}
	if !client.Close(1001, "bye") || !server.Free() && server.Got() {
		t.Fatal("no end")
	}
	for range 2000 {
		atServer = append(atServer, server.Feed(client.Take(5))...)
		atClient = append(atClient, client.Feed(server.Take(5))...)
	}
	for _, l := range []*leg.Leg{server, client} {
		if !l.Quiet() || !l.Sent() || !l.Got() || l.Wrong() != 0 || l.Kept() != 0 {
			t.Errorf("quiet %v, sent %v, got %v, wrong %d, %d kept", l.Quiet(), l.Sent(), l.Got(), l.Wrong(), l.Kept())
		}
	}
	holdTold(t, "at the server", atServer, byClient, end(1001, "bye"))
	holdTold(t, "at the client", atClient, byServer, end(1001, ""))
}

// holdTold holds what a side told against the messages that the other one sent, the last one of which may be missing, and the end; pongs don't count.
func holdTold(t *testing.T, what string, told, sent []api.Event, last api.Event) {
	t.Helper()
	var messages []api.Event
	for _, e := range told {
		if e.Op != 10 {
			messages = append(messages, e)
		}
	}
	n := len(messages) - 1
	if n < 10 || n < len(sent)-1 || n > len(sent) {
		t.Fatalf("%s: %d messages came, %d were sent", what, n, len(sent))
	}
	sameEvents(t, what, messages[:n], sent[:n])
	sameEvents(t, what, messages[n:], []api.Event{last})
}

// The rules: a configuration isn't changed, nor kept: what is done to it behind New doesn't matter.
func TestConfigIsNotKept(t *testing.T) {
	c := config(20, 2, 6)
	c.Routes = append(make([]api.Route, 0, 5), api.Route{Prefix: "/a", Protocol: "p", To: "t"})
	c.Origins = append(make([]string, 0, 5), "o")
	l, s := both(t, c, false, 3)
	if routes := c.Routes[:5]; c.Routes[0] != (api.Route{Prefix: "/a", Protocol: "p", To: "t"}) || routes[1] != (api.Route{}) || c.Origins[0] != "o" || c.Origins[:5][1] != "" {
		t.Fatal("the configuration is changed")
	}
	c.Routes[0] = api.Route{Prefix: "no"}
	c.Origins[0] = "other"
	c.Message, c.Frame, c.Out = 1, 1, 1
	s.c = config(20, 2, 6)
	for i, a := range []act{{kind: "send", op: 1, data: "123456789"}, {kind: "feed", data: in(false, 129, "123456789")}, {kind: "ping", data: "p"}, {kind: "take", n: 6}, {kind: "take", n: 6}} {
		holdAct(t, fmt.Sprint("act ", i), l, s, a)
	}
}

// inUse is how many bytes of memory are in use.
func inUse() int {
	runtime.GC()
	runtime.GC()
	var m runtime.MemStats
	runtime.ReadMemStats(&m)
	return int(m.HeapAlloc)
}

// keeps is how many bytes are kept for each of some sides to which something was done.
func keeps(t *testing.T, c api.Config, how func(l *leg.Leg, masked bool)) int {
	t.Helper()
	const sides = 40
	var all []*leg.Leg
	before := inUse()
	for i := range sides {
		l := made(t, c, i%2 == 0, uint32(i))
		how(l, i%2 == 0)
		all = append(all, l)
	}
	more := inUse() - before
	runtime.KeepAlive(all)
	return more / sides
}

// What is kept is no more than what waits: not messages, pings and ends that went out, nor the rest, where an end was sent, nor what was told.
func TestKeepsNoMore(t *testing.T) {
	long := strings.Repeat("0123456789abcdef", 4096)
	sends := func(l *leg.Leg) { l.Send(api.Event{Op: 2, Data: long}) }
	pings := func(l *leg.Leg) {
		for range 500 {
			l.Ping(long[:125])
		}
	}
	gone := func(l *leg.Leg) { drain(t, l, 16) }
	for _, x := range []struct {
		name  string
		frame int
		most  int
		how   func(l *leg.Leg, m bool)
	}{
		{"nothing", 1000, 1000, func(l *leg.Leg, m bool) {}},
		{"a message of one frame went out", 65536, 2000, func(l *leg.Leg, m bool) { sends(l); gone(l) }},
		{"a message of many frames went out", 1, 2000, func(l *leg.Leg, m bool) { sends(l); gone(l) }},
		{"all but one frame of two went out", 65535, 2000, func(l *leg.Leg, m bool) {
			sends(l)
			for range 65550 / 16 {
				l.Take(16)
			}
		}},
		{"pings went out", 1000, 2000, func(l *leg.Leg, m bool) { pings(l); gone(l) }},
		{"all pings but the last ones went out", 1000, 65536 * 3 / 4, func(l *leg.Leg, m bool) {
			pings(l)
			for range 480 * 127 / 16 {
				l.Take(16)
			}
		}},
		{"all but the last frames of a message went out", 1000, 16000, func(l *leg.Leg, m bool) {
			sends(l)
			for range 60 * 1000 / 16 {
				l.Take(16)
			}
		}},
		{"an end was sent within a message", 1000, 4000, func(l *leg.Leg, m bool) { sends(l); l.Close(1000, "") }},
		{"an end came within a message", 1000, 4000, func(l *leg.Leg, m bool) { sends(l); l.Feed([]byte(in(m, 136, ""))) }},
		{"a message came", 1000, 2000, func(l *leg.Leg, m bool) { l.Feed([]byte(in(m, 130, long))) }},
		{"an end behind a part of a message came", 1000, 2000, func(l *leg.Leg, m bool) {
			l.Feed([]byte(in(m, 2, long)))
			l.Feed([]byte(in(m, 136, "")))
		}},
		{"pings came while one waits", 1000, 3000, func(l *leg.Leg, m bool) {
			for range 500 {
				l.Feed([]byte(in(m, 137, long[:125])))
			}
		}},
		{"an end went out, and pings would", 1000, 2000, func(l *leg.Leg, m bool) { l.Close(1000, ""); gone(l); pings(l); sends(l) }},
	} {
		if n := keeps(t, config(65536, x.frame, 16), x.how); n > x.most {
			t.Errorf("%s: %d bytes are kept for each side, want at most %d", x.name, n, x.most)
		}
	}
}
