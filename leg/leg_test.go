package leg_test

import (
	"fmt"
	"math"
	"strings"
	"testing"

	"pendentive/api"
	"pendentive/leg"
)

// config is a configuration with so many bytes: of a message, of a frame that is sent, of output.
func config(message, frame, out int) api.Config {
	return api.Config{Routes: []api.Route{{Prefix: "/", To: "x"}}, Table: 13, Message: message, Frame: frame, Count: 14, Bytes: 1 << 22, Out: out, Shake: 15, Idle: 16, Pong: 17, Close: 18}
}

// made is a side of a configuration that may be.
func made(t testing.TB, c api.Config, masked bool, draw uint32) *leg.Leg {
	t.Helper()
	l, err := leg.New(c, masked, draw)
	if l == nil || err != 0 {
		t.Fatalf("New(%+v, %v, %d): %v, %d", c, masked, draw, l != nil, err)
	}
	return l
}

// both are a side, and the reckoned one.
func both(t testing.TB, c api.Config, masked bool, draw uint32) (*leg.Leg, *side) {
	t.Helper()
	return made(t, c, masked, draw), newSide(c, masked, draw)
}

// in is a frame as it comes to a side, masked if it must be.
func in(masked bool, first byte, data string) string {
	if masked {
		return wire(piece{first: first, data: data, key: "\x9a\x00\xff\x41"})
	}
	return wire(piece{first: first, data: data})
}

// drain takes all that goes out, so many bytes at a time.
func drain(t testing.TB, l *leg.Leg, at int) string {
	t.Helper()
	var out strings.Builder
	for !l.Quiet() {
		b := l.Take(at)
		if len(b) == 0 || len(b) > at || out.Len() > 1<<22 {
			t.Fatalf("Take(%d) of a side that isn't quiet, behind %d bytes: %d bytes", at, out.Len(), len(b))
		}
		out.Write(b)
	}
	if b := l.Take(at); len(b) > 0 {
		t.Fatalf("Take(%d) of a quiet side: %d bytes", at, len(b))
	}
	return out.String()
}

// takeOnes takes so many bytes, one by one.
func takeOnes(t testing.TB, l *leg.Leg, n int) string {
	t.Helper()
	out := ""
	for range n {
		b := l.Take(1)
		if len(b) != 1 {
			t.Fatalf("Take(1) of a side that isn't quiet, behind %d bytes: %d bytes", len(out), len(b))
		}
		out += string(b)
	}
	return out
}

// unmasked is what went out of a side to which unmasked frames come, as if it weren't masked; each frame must be, by the next draw.
func unmasked(t testing.TB, out string, draw uint32) string {
	t.Helper()
	all := ""
	for b := []byte(out); len(b) > 0; {
		p, n, wrong := unwire(b, true, 1<<20)
		if n == 0 || wrong != 0 {
			t.Fatalf("what went out isn't masked frames from %q on", short(string(b)))
		}
		draw = after(draw)
		if want := fmt.Sprintf("%08x", draw); fmt.Sprintf("%x", p.key) != want {
			t.Fatalf("a frame %q is masked by %x, want %s", short(string(b)), p.key, want)
		}
		p.key = ""
		all += wire(p)
		b = b[n:]
	}
	return all
}

// went is all that goes out of a side, as if it weren't masked.
func went(t testing.TB, l *leg.Leg, masked bool, draw uint32) string {
	t.Helper()
	out := drain(t, l, 1<<17)
	if masked {
		return out
	}
	return unmasked(t, out, draw)
}

// P16.1, and the section 'Errors': the numbers, written out.
func TestNumbers(t *testing.T) {
	if api.ErrLegForm != 160 || api.OK != 0 || api.OpClose != 8 || api.OpPing != 9 || api.OpPong != 10 || api.CodeNone != 1005 {
		t.Error("package api has other numbers")
	}
}

// The chapter's example: a side to which an unmasked frame comes, and mustn't: 1002 goes out, and nothing else.
func TestExample(t *testing.T) {
	for _, came := range []string{"\x81\x05Hello", "\x81\x00", "\x01\x7f", "\x89\x00", "\x88\x02\x03\xe8"} {
		l := made(t, config(20, 5, 100), true, 7)
		if x := l.Feed([]byte(came)); len(x) > 0 {
			t.Errorf("%q: told %+v", came, x)
		}
		if s := drain(t, l, 1000); s != "\x88\x02\x03\xea" || l.Wrong() != 100 || !l.Sent() || l.Got() || l.Free() || l.Kept() != 0 {
			t.Errorf("%q: %q went out, wrong %d", came, s, l.Wrong())
		}
	}
}

// The document's second and ninth examples of the whole that are a side's: text He, a ping, more llo; an unmasked frame of a client's.
func TestExamplesOfTheWhole(t *testing.T) {
	for _, masked := range []bool{false, true} {
		l := made(t, config(20, 5, 100), masked, 7)
		told := l.Feed([]byte(in(masked, 1, "He") + in(masked, 137, "?") + in(masked, 128, "llo")))
		sameEvents(t, "Hello", told, []api.Event{{Op: 1, Data: "Hello"}})
		if s := went(t, l, masked, 7); s != "\x8a\x01?" {
			t.Errorf("%v: %q went out", masked, s)
		}
	}
	l := made(t, config(20, 5, 100), true, 7)
	l.Feed([]byte{129, 1, 97})
	if s := drain(t, l, 1000); s != string([]byte{136, 2, 3, 234}) {
		t.Errorf("%q went out", s)
	}
}

// P16.1: New of configurations that may be: a side to which nothing came, and that sent nothing.
func TestNewThatMayBe(t *testing.T) {
	great := api.Config{Table: 64, Message: 65536, Frame: 65536, Count: 1024, Bytes: 1 << 22, Out: 65536, Shake: 1 << 30, Idle: 1 << 30, Pong: 1 << 30, Close: 1 << 30}
	for i := range 16 {
		great.Routes = append(great.Routes, api.Route{Prefix: "/" + strings.Repeat("a", i), Protocol: "p", To: "there"})
		great.Origins = append(great.Origins, fmt.Sprint("http://", i))
	}
	for _, c := range []api.Config{config(1, 1, 1), config(20, 2, 6), config(124, 65536, 65536), config(65536, 1, 1), great} {
		for _, draw := range []uint32{0, 1, 1 << 31, math.MaxUint32} {
			for _, masked := range []bool{false, true} {
				l := made(t, c, masked, draw)
				if is := standsOf(l); is != (stands{free: true, quiet: true}) || len(l.Feed(nil)) > 0 || len(l.Take(1)) > 0 {
					t.Errorf("New(Message %d, %v, %d): %+v", c.Message, masked, draw, is)
				}
			}
		}
	}
}

// wrongConfigs are configurations that may not be, each by one thing.
func wrongConfigs() []api.Config {
	out := []api.Config{{}}
	change := func(how func(c *api.Config)) {
		c := config(20, 2, 6)
		how(&c)
		out = append(out, c)
	}
	number := func(of func(c *api.Config) *int, wrong ...int) {
		for _, n := range append(wrong, 0, -1, math.MinInt, math.MaxInt) {
			change(func(c *api.Config) { *of(c) = n })
		}
	}
	number(func(c *api.Config) *int { return &c.Table }, 65)
	number(func(c *api.Config) *int { return &c.Message }, 65537, 1<<20, 1<<22+1)
	number(func(c *api.Config) *int { return &c.Frame }, 65537, 1<<32+1)
	number(func(c *api.Config) *int { return &c.Count }, 1025)
	number(func(c *api.Config) *int { return &c.Bytes }, 19, 1<<22+1)
	number(func(c *api.Config) *int { return &c.Out }, 65537, 1<<32+6)
	number(func(c *api.Config) *int { return &c.Shake }, 1<<30+1)
	number(func(c *api.Config) *int { return &c.Idle }, 1<<30+1)
	number(func(c *api.Config) *int { return &c.Pong }, 1<<30+1)
	number(func(c *api.Config) *int { return &c.Close }, 1<<30+1)
	change(func(c *api.Config) { c.Message, c.Bytes = 65537, 1<<20 })
	change(func(c *api.Config) { c.Routes = nil })
	change(func(c *api.Config) { c.Routes = append(c.Routes, c.Routes[0]) })
	change(func(c *api.Config) { c.Routes = make([]api.Route, 17) })
	change(func(c *api.Config) { c.Routes = []api.Route{{Prefix: "a", To: "x"}} })
	change(func(c *api.Config) { c.Routes = []api.Route{{Prefix: "/?", To: "x"}} })
	change(func(c *api.Config) { c.Routes = []api.Route{{Prefix: "/", To: ""}} })
	change(func(c *api.Config) { c.Routes = []api.Route{{Prefix: "/", To: "x", Protocol: "a b"}} })
	change(func(c *api.Config) { c.Origins = make([]string, 17) })
	return out
}

// P16.1: New of configurations that may not be: ErrLegForm, and no side.
func TestNewThatMayNotBe(t *testing.T) {
	for i, c := range wrongConfigs() {
		for _, masked := range []bool{false, true} {
			if l, err := leg.New(c, masked, uint32(i)); l != nil || err != 160 {
				t.Errorf("New(%+v, %v): %v, %d, want ErrLegForm", c, masked, l != nil, err)
			}
		}
	}
}

// P16.1: what a configuration bounds beside messages, frames and output doesn't matter to a side.
func TestOtherBounds(t *testing.T) {
	c := config(20, 2, 6)
	c.Table, c.Count, c.Bytes, c.Shake, c.Idle, c.Pong, c.Close = 64, 1024, 20, 99, 98, 97, 96
	c.Origins = []string{"o"}
	a, s := made(t, c, false, 5), newSide(config(20, 2, 6), false, 5)
	for i := range 4 {
		what := fmt.Sprint("round ", i)
		came := []byte(in(false, 129, "12345678901234567890"))
		sameEvents(t, what, a.Feed(came), s.Feed(came))
		a.Send(api.Event{Op: 2, Data: "abcdefghi"})
		s.Send(api.Event{Op: 2, Data: "abcdefghi"})
		hold(t, what, a, s)
		a.Take(3 * i)
		s.Take(3 * i)
		hold(t, what, a, s)
	}
}
