package leg_test

import (
	"fmt"
	"math"
	"math/rand/v2"
	"strings"
	"testing"

	"pendentive/api"
)

// act is what is done to a side: one of its calls, and what it is given.
type act struct {
	kind     string
	data     string
	op, code int
	n        int
}

// came is what an act came to.
type came struct {
	told []api.Event
	is   bool
	out  string
}

// do does an act to a side.
func do(s sided, a act) came {
	switch a.kind {
	case "feed":
		return came{told: s.Feed([]byte(a.data))}
	case "send":
		return came{is: s.Send(api.Event{Op: a.op, Code: a.code, Data: a.data})}
	case "ping":
		return came{is: s.Ping(a.data)}
	case "close":
		return came{is: s.Close(a.code, a.data)}
	case "peek":
		return came{out: string(s.Peek(a.n))}
	}
	return came{out: string(s.Take(a.n))}
}

// holdAct does an act to a side and the reckoned one, and holds them against each other.
func holdAct(t testing.TB, what string, l, s sided, a act) came {
	t.Helper()
	is, want := do(l, a), do(s, a)
	sameEvents(t, what+" "+a.kind, is.told, want.told)
	if is.is != want.is || is.out != want.out {
		t.Fatalf("%s: %s of %q (op %d, code %d, n %d): %v %q, want %v %q", what, a.kind, short(a.data), a.op, a.code, a.n, is.is, short(is.out), want.is, short(want.out))
	}
	if is, want := standsOf(l), standsOf(s); is != want {
		t.Fatalf("%s: behind %s of %q (op %d, code %d, n %d): %+v, want %+v", what, a.kind, short(a.data), a.op, a.code, a.n, is.shortly(), want.shortly())
	}
	return is
}

// drawer draws a number from 0 to n-1.
type drawer func(n int) int

// seeded is a drawer that draws the same each time.
func seeded(seed uint64) drawer {
	r := rand.New(rand.NewPCG(seed, 16))
	return func(n int) int { return r.IntN(n) }
}

// pick is one of some.
func pick[T any](draw drawer, of ...T) T { return of[draw(len(of))] }

// flow is what comes to a side.
type flow struct {
	draw    drawer
	masked  bool
	message int
	wrong   int // one of so many things that come is wrong
	coming  string
}

// letters are so many bytes of letters, or a few less.
func (f *flow) letters(n int) string {
	out := ""
	for len(out) < n {
		out += pick(f.draw, "a", "Z", "\x00", "é", "\u07ff", "€", "\uffff", "😀", "\U0010ffff")
	}
	for len(out) > n {
		r := []rune(out)
		out = string(r[:len(r)-1])
	}
	return out
}

// bytes are so many.
func (f *flow) bytes(n int) string {
	b := make([]byte, n)
	for i := range b {
		b[i] = byte(f.draw(256))
	}
	return string(b)
}

// frame is one that comes, masked by a mask of its own, if it must be.
func (f *flow) frame(first byte, data string) string {
	if f.masked {
		return wire(piece{first: first, data: data, key: f.bytes(4)})
	}
	return wire(piece{first: first, data: data})
}

// control is a ping or a pong.
func (f *flow) control() string {
	return f.frame(pick[byte](f.draw, 137, 137, 138), f.bytes(pick(f.draw, 0, 1, 2, 3, f.draw(126), 125)))
}

// messageFrames are those of a message, cut anywhere, with control frames between.
func (f *flow) messageFrames() string {
	n := min(f.message, pick(f.draw, 0, 1, 2, 3, f.draw(f.message+1), f.message))
	first, data := byte(1), f.letters(n)
	if f.draw(2) == 0 {
		first, data = 2, f.bytes(n)
	}
	out := ""
	for ; f.draw(3) > 0; first = 0 {
		n := f.draw(len(data) + 1)
		out += f.frame(first, data[:n])
		data = data[n:]
		if f.draw(3) == 0 {
			out += f.control()
		}
	}
	return out + f.frame(first+128, data)
}

// end is one that may come.
func (f *flow) end() string {
	if f.draw(3) == 0 {
		return f.frame(136, "")
	}
	code := pick(f.draw, 1000, 1001, 1003, 1007, 1011, 3000, 4999, 3000+f.draw(2000))
	return f.frame(136, string([]byte{byte(code >> 8), byte(code)})+f.letters(pick(f.draw, 0, 1, 7, 123)))
}

// wrongThing is bytes that may not come; the ones behind it might.
func (f *flow) wrongThing() string {
	other := &flow{draw: f.draw, masked: !f.masked, message: f.message}
	top := byte(0)
	if f.masked {
		top = 128
	}
	long := max(f.message, 125) + 1
	return pick(f.draw,
		string([]byte{pick[byte](f.draw, 3, 11, 64, 32, 16, 131, 143, 193)}),
		string([]byte{pick[byte](f.draw, 8, 9, 10)}),
		string([]byte{pick[byte](f.draw, 136, 137, 138), top + pick[byte](f.draw, 126, 127)}),
		other.frame(pick[byte](f.draw, 129, 130, 137, 136), f.bytes(f.draw(4))),
		string([]byte{130, top + 126, 0, 125}),
		string([]byte{130, top + 127, 0, 0, 0, 0, 0, 0}),
		string([]byte{130, top + 127, 128}),
		string([]byte{130, top + 127, 0, 0, 0, 1}),
		f.frame(130, strings.Repeat("x", long))[:pick(f.draw, 2, 4)],
		f.frame(130, f.bytes(f.message+1)),
		f.frame(2, f.bytes(f.message))+f.frame(128, "x"),
		f.frame(128, "x"), f.frame(0, ""),
		f.frame(1, "")+f.frame(130, ""), f.frame(2, "")+f.frame(1, ""),
		f.frame(129, f.letters(f.draw(4))+pick(f.draw, "\xff", "\x80", "\xc3", "\xed\xa0", "\xf4\x90")),
		f.frame(1, "\xf0")+f.control()+f.frame(128, "\x9f"),
		f.frame(1, "\xed")+f.frame(0, "\xa0"),
		f.frame(136, "\x03"), f.frame(136, "\x03\xed"), f.frame(136, "\x03\xe8\xff"), f.frame(136, "\x13\x88"),
	)
}

// piece is bytes that come next.
func (f *flow) piece() string {
	for more := f.draw(3); f.coming == "" || more > 0; more-- {
		switch n := f.draw(f.wrong); {
		case n == 0:
			f.coming += f.wrongThing()
		case n == 1:
			f.coming += f.end()
		case n%2 == 0:
			f.coming += f.control()
		default:
			f.coming += f.messageFrames()
		}
	}
	n := min(len(f.coming), pick(f.draw, len(f.coming), len(f.coming), 1, 2, 1+f.draw(10), 1+f.draw(len(f.coming))))
	out := f.coming[:n]
	f.coming = f.coming[n:]
	return out
}

// act is one that is drawn.
func (f *flow) act(c api.Config) act {
	switch n := f.draw(20); {
	case n < 7:
		return act{kind: "feed", data: f.piece()}
	case n < 11:
		op, size := pick(f.draw, 1, 2, 1, 2, 0, 8, 9, -1, 257), pick(f.draw, 0, 1, f.draw(c.Message+1), c.Message, c.Message, c.Message+1)
		return act{kind: "send", op: op, code: f.draw(3) * 1000, data: f.bytes(size)}
	case n < 13:
		return act{kind: "ping", data: f.bytes(pick(f.draw, 0, 1, 2, 7, 125, 126))}
	case n < 14:
		if f.draw(4) > 0 {
			return act{kind: "close", code: pick(f.draw, 999, 1004, 1005, -1, 5000), data: "x"}
		}
		return act{kind: "close", code: pick(f.draw, 0, 0, 1000, 1001, 4999, 1005), data: pick(f.draw, "", "", "bye", "\xff", f.letters(123), f.letters(124))}
	case n < 15:
		return act{kind: "peek", n: pick(f.draw, 0, 1, c.Out, c.Out+1, -1, math.MinInt, math.MaxInt)}
	}
	return act{kind: "take", n: pick(f.draw, 0, 1, 1, 2, 3, f.draw(c.Out+1), c.Out, c.Out+1, -1, math.MinInt, math.MaxInt)}
}

// drawnConfig is a configuration, and whether masked frames come.
func drawnConfig(draw drawer) (api.Config, bool) {
	message := pick(draw, 1, 2, 3, 4, 5, 20, 124, 125, 126, 127, 300)
	frame := pick(draw, 1, 2, 3, 5, message, 125, 126, 400)
	return config(message, frame, pick(draw, 1, 2, 3, 4, 5, 6, 8, 10, 50, 300)), draw(2) == 0
}

// drawnActs does acts that are drawn to a side and to the reckoned one.
func drawnActs(t testing.TB, what string, draw drawer, acts int) {
	t.Helper()
	c, masked := drawnConfig(draw)
	first := uint32(draw(math.MaxUint32))
	l, s := both(t, c, masked, first)
	f := &flow{draw: draw, masked: masked, message: c.Message, wrong: pick(draw, 3, 12, 40, 200)}
	for i := range acts {
		holdAct(t, fmt.Sprintf("%s (Message %d, Frame %d, Out %d, masked %v, draw %d), act %d", what, c.Message, c.Frame, c.Out, masked, first, i), l, s, f.act(c))
	}
	holdAct(t, what+", drained", l, s, act{kind: "take", n: c.Out})
}

// P16.1, P16.2, P16.3: whatever is done, a side stands as the chapter's words say.
func TestDrawnActs(t *testing.T) {
	for seed := range uint64(12000) {
		drawnActs(t, fmt.Sprint("seed ", seed), seeded(seed), 60)
	}
}

// FuzzActs does acts that bytes choose.
func FuzzActs(f *testing.F) {
	for seed := range 20 {
		r := rand.New(rand.NewPCG(uint64(seed), 1))
		b := make([]byte, 400)
		for i := range b {
			b[i] = byte(r.IntN(256))
		}
		f.Add(b)
	}
	f.Fuzz(func(t *testing.T, b []byte) {
		at := 0
		next := func(n int) int {
			if at+2 > len(b) {
				return 0
			}
			at += 2
			return (int(b[at-2])<<8 + int(b[at-1])) % n
		}
		for rounds := 0; at+2 <= len(b) && rounds < 3; rounds++ {
			drawnActs(t, "fuzz", next, 30)
		}
	})
}
