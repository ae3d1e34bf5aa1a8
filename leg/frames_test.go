package leg_test

import (
	"fmt"
	"math"
	"strings"
	"testing"

	"pendentive/api"
)

// gone is what went out of a side, read as frames.
type gone struct {
	messages []api.Event // those that went out to their end
	op       int         // of the one that didn't, if there is one
	part     []byte      // and its data so far
	controls []piece
	ends     int
	left     int // bytes of a frame that didn't go out to its end
}

// readGone reads what went out of a side; each frame must be one that may be, of at most so many bytes, and be masked as it must.
func readGone(t testing.TB, what, out string, c api.Config, masked bool, draw uint32) gone {
	t.Helper()
	var g gone
	for b := []byte(out); len(b) > 0; {
		p, n, wrong := unwire(b, !masked, c.Frame+125)
		if wrong != 0 {
			t.Fatalf("%s: %q is no frame: %d", what, short(string(b)), wrong)
		}
		if g.ends > 0 {
			t.Fatalf("%s: %q behind an end", what, short(string(b)))
		}
		if n == 0 {
			g.left = len(b)
			return g
		}
		b = b[n:]
		if !masked {
			draw = after(draw)
			if p.key != string([]byte{byte(draw >> 24), byte(draw >> 16), byte(draw >> 8), byte(draw)}) {
				t.Fatalf("%s: a frame is masked by %x, want %08x", what, p.key, draw)
			}
		}
		g.add(t, what, p, c)
	}
	return g
}

// add goes on by a frame that went out.
func (g *gone) add(t testing.TB, what string, p piece, c api.Config) {
	t.Helper()
	op := int(p.first % 16)
	if op >= 8 {
		g.controls = append(g.controls, p)
		if op == 8 {
			g.ends++
		}
		return
	}
	begun := g.op != 0
	if begun != (op == 0) || len(p.data) > c.Frame || begun && p.data == "" {
		t.Fatalf("%s: a frame of op %d and %d bytes; a message is begun: %v", what, op, len(p.data), begun)
	}
	if !begun {
		g.op = op
	}
	g.part = append(g.part, p.data...)
	switch {
	case p.first >= 128:
		g.messages = append(g.messages, api.Event{Op: g.op, Data: string(g.part)})
		g.op, g.part = 0, nil
	case len(p.data) != c.Frame:
		t.Fatalf("%s: a frame of %d bytes isn't the last one of its message", what, len(p.data))
	}
}

// holdGone holds what went out against the messages that were sent.
func (g *gone) hold(t testing.TB, what string, sent []api.Event, ended bool) {
	t.Helper()
	if len(g.messages) > len(sent) {
		t.Fatalf("%s: %d messages went out, %d were sent", what, len(g.messages), len(sent))
	}
	sameEvents(t, what, g.messages, sent[:len(g.messages)])
	if g.op != 0 && (len(g.messages) == len(sent) || sent[len(g.messages)].Op != g.op || !strings.HasPrefix(sent[len(g.messages)].Data, string(g.part))) {
		t.Fatalf("%s: a part %q of a message that wasn't sent", what, short(string(g.part)))
	}
	left := len(sent) - len(g.messages)
	if !ended && left+g.ends+g.left > 0 || ended && (g.ends != 1 || left > 1 || g.left > 0) {
		t.Fatalf("%s: all is quiet; ended: %v, ends that went out: %d, messages that didn't: %d", what, ended, g.ends, left)
	}
}

// drawnGone does acts that are drawn to a side, and reads what went out of it.
func drawnGone(t testing.TB, what string, draw drawer, acts int) {
	t.Helper()
	c, masked := drawnConfig(draw)
	first := uint32(draw(math.MaxUint32))
	l := made(t, c, masked, first)
	f := &flow{draw: draw, masked: masked, message: c.Message, wrong: pick(draw, 12, 60, 400)}
	var sent []api.Event
	var pings []string
	out := ""
	for range acts {
		a := f.act(c)
		x := do(l, a)
		switch {
		case a.kind == "send" && x.is:
			sent = append(sent, api.Event{Op: a.op, Data: a.data})
		case a.kind == "ping" && x.is:
			pings = append(pings, a.data)
		case a.kind == "take":
			out += x.out
		}
		readGone(t, what, out, c, masked, first)
	}
	ended := l.Sent()
	out += drain(t, l, c.Out)
	g := readGone(t, what, out, c, masked, first)
	g.hold(t, what, sent, ended)
	asked := 0
	for _, p := range g.controls {
		if p.first == 137 {
			if asked == len(pings) || pings[asked] != p.data {
				t.Fatalf("%s: a ping %q that wasn't asked for", what, short(p.data))
			}
			asked++
		}
	}
	if asked != len(pings) {
		t.Fatalf("%s: %d pings went out, want %d", what, asked, len(pings))
	}
}

// P16.4: what goes out is frames, masked as they must be; their messages are those that were sent, in order, the last one perhaps not to its end; nothing is behind an end.
func TestWhatGoesOut(t *testing.T) {
	for seed := range uint64(4000) {
		drawnGone(t, fmt.Sprint("seed ", seed), seeded(1<<32+seed), 50)
	}
}

// P16.4: messages are sent as soon as the side is free, while pings come and go, with no end: all of them go out, and all pings are answered, by the last one where several came.
func TestAllGoesOut(t *testing.T) {
	for _, masked := range []bool{false, true} {
		c := config(40, 3, 5)
		l := made(t, c, masked, 9)
		var sent []api.Event
		out, waits := "", ""
		for i := range 400 {
			if l.Free() {
				e := api.Event{Op: 1 + i%2, Data: strings.Repeat("x", i%41)}
				if !l.Send(e) {
					t.Fatal("a free side doesn't send")
				}
				sent = append(sent, e)
			}
			if i%7 == 0 {
				waits = fmt.Sprint("ping ", i)
				l.Feed([]byte(in(masked, 137, waits)))
			}
			out += string(l.Take(i % 6))
		}
		out += drain(t, l, 4)
		g := readGone(t, "all", out, c, masked, 9)
		g.hold(t, "all", sent, false)
		if n := len(g.controls); n == 0 || g.controls[n-1].first != 138 || g.controls[n-1].data != waits {
			t.Errorf("the last ping isn't answered: %d pongs", n)
		}
	}
}

// P16.4: an end in the midst of a message, at each place of it: the frame that is on its way goes out to its end, the rest of the message doesn't, and nothing stands behind the end.
func TestEndWithinMessage(t *testing.T) {
	const message = "\x02\x02ab\x00\x02cd\x00\x02ef\x80\x01g"
	for out := 1; out <= 18; out++ {
		for taken := range len(message) {
			for way := range 3 {
				l := made(t, config(7, 2, out), true, 0)
				if !l.Send(api.Event{Op: 2, Data: "abcdefg"}) {
					t.Fatal("not sent")
				}
				s := takeOnes(t, l, taken)
				end := "\x88\x02\x03\xe9"
				switch way {
				case 0:
					l.Close(1001, "")
				case 1:
					l.Feed([]byte(in(true, 136, "\x03\xe9gone")))
				case 2:
					l.Feed([]byte("\x07"))
					end = "\x88\x02\x03\xea"
				}
				s += drain(t, l, 3)
				// Four frames of 4, 4, 4 and 3 bytes: those that the ring reaches into have become the tail, and one more, if the ring ends where a frame does.
				whole := min(len(message), (taken+out)/4*4+4)
				if s != message[:whole]+end {
					t.Fatalf("Out %d, %d taken, way %d: %q went out", out, taken, way, s)
				}
			}
		}
	}
}
