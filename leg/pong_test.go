package leg_test

import (
	"fmt"
	"strings"
	"testing"

	"pendentive/api"
	"pendentive/leg"
)

// pinged is what goes out of a side with so much room, to which some pings come.
func pinged(t *testing.T, out int, pings ...string) *leg.Leg {
	t.Helper()
	l := made(t, config(20, 2, out), true, 0)
	pingMore(t, l, pings...)
	return l
}

// pingMore lets pings come, which aren't told.
func pingMore(t *testing.T, l *leg.Leg, pings ...string) {
	t.Helper()
	for _, p := range pings {
		if x := l.Feed([]byte(in(true, 137, p))); len(x) > 0 {
			t.Fatalf("a ping %q is told: %+v", p, x)
		}
	}
}

// sameOut holds what goes out of a side against what is wanted.
func sameOut(t *testing.T, what string, l *leg.Leg, want string) {
	t.Helper()
	if s := drain(t, l, 3); s != want {
		t.Fatalf("%s: %q went out, want %q", what, short(s), short(want))
	}
}

// P16.1: with nothing waiting each ping is answered; where a pong is on its way, by another one; where one is among the control frames, that one has the last ping's data.
func TestPongs(t *testing.T) {
	// "\x8a\x01a" has 3 bytes. With room for as many it isn't on its way alone: the next one is the tail.
	for _, x := range []struct {
		out   int
		pings []string
		want  string
	}{
		{100, []string{"a", "b", "c"}, "\x8a\x01a\x8a\x01b\x8a\x01c"},
		{9, []string{"a", "b", "c", "d", "e", "f"}, "\x8a\x01a\x8a\x01b\x8a\x01c\x8a\x01d\x8a\x01f"},
		{8, []string{"a", "b", "c", "d", "e", "f"}, "\x8a\x01a\x8a\x01b\x8a\x01c\x8a\x01f"},
		{7, []string{"a", "b", "c", "d", "e", "f"}, "\x8a\x01a\x8a\x01b\x8a\x01c\x8a\x01f"},
		{6, []string{"a", "b", "c", "d", "e", "f"}, "\x8a\x01a\x8a\x01b\x8a\x01c\x8a\x01f"},
		{5, []string{"a", "b", "c", "d", "e", "f"}, "\x8a\x01a\x8a\x01b\x8a\x01f"},
		{4, []string{"a", "b", "c"}, "\x8a\x01a\x8a\x01b\x8a\x01c"},
		{3, []string{"a", "b", "c"}, "\x8a\x01a\x8a\x01b\x8a\x01c"},
		{3, []string{"a", "b", "c", "d"}, "\x8a\x01a\x8a\x01b\x8a\x01d"},
		{2, []string{"a"}, "\x8a\x01a"},
		{2, []string{"a", "b"}, "\x8a\x01a\x8a\x01b"},
		{2, []string{"a", "b", "c"}, "\x8a\x01a\x8a\x01c"},
		{1, []string{"a", "b", "c", "d", "long", ""}, "\x8a\x01a\x8a\x00"},
		{1, []string{"a", "b", strings.Repeat("z", 125)}, "\x8a\x01a\x8a\x7d" + strings.Repeat("z", 125)},
	} {
		what := fmt.Sprintf("Out %d, pings %q", x.out, x.pings)
		sameOut(t, what, pinged(t, x.out, x.pings...), x.want)
		// In one piece too: all that may move on does so behind each ping.
		l := made(t, config(20, 2, x.out), true, 0)
		piece := ""
		for _, p := range x.pings {
			piece += in(true, 137, p)
		}
		l.Feed([]byte(piece))
		sameOut(t, what+", in one piece", l, x.want)
	}
}

// P16.1: a pong that has become the tail isn't among the control frames any more: the next ping is answered by another one.
func TestPongOnItsWay(t *testing.T) {
	l := pinged(t, 1, "a", "b")
	if s := string(l.Take(1)) + string(l.Take(1)); s != "\x8a\x01" {
		t.Fatalf("%q", s)
	}
	pingMore(t, l, "c") // b's is among the control frames: a's last byte fills the ring, and so b's is the tail
	sameOut(t, "three", l, "a\x8a\x01b\x8a\x01c")

	l = pinged(t, 1, "a", "b")
	l.Take(1) // a's last byte is the tail still
	pingMore(t, l, "c")
	sameOut(t, "two", l, "\x01a\x8a\x01c")
}

// P16.1: the pong that has other data stays where it is among the control frames, and the others have theirs.
func TestPongInItsPlace(t *testing.T) {
	l := pinged(t, 1, "a")
	for _, ok := range []bool{l.Ping("1"), l.Ping("2")} {
		if !ok {
			t.Fatal("no ping")
		}
	}
	pingMore(t, l, "b")
	if !l.Ping("3") {
		t.Fatal("no ping")
	}
	pingMore(t, l, "c", "d")
	if !l.Ping("4") {
		t.Fatal("no ping")
	}
	sameOut(t, "pings and a pong", l, "\x8a\x01a\x89\x011\x89\x012\x8a\x01d\x89\x013\x89\x014")
	pingMore(t, l, "e")
	sameOut(t, "behind all", l, "\x8a\x01e")
}

// P16.1: a ping of our own, on its way or waiting, is no pong.
func TestPingIsNoPong(t *testing.T) {
	l := made(t, config(20, 2, 1), true, 0)
	l.Ping("x")
	l.Ping("y")
	pingMore(t, l, "a")
	sameOut(t, "pings", l, "\x89\x01x\x89\x01y\x8a\x01a")
}

// P16.1: a pong goes ahead of what is left of a message, but not within a frame.
func TestPongAheadOfTheRest(t *testing.T) {
	const first, second, third = "\x02\x0212", "\x00\x0234", "\x80\x015"
	for taken := range len(first + second + third) {
		l := made(t, config(20, 2, 1), true, 0)
		l.Send(api.Event{Op: 2, Data: "12345"})
		s := takeOnes(t, l, taken)
		pingMore(t, l, "a", "b")
		s += drain(t, l, 1)
		want := ""
		switch { // One byte is in the ring: where it is a frame's last one, the next frame is the tail.
		case taken < 3:
			want = first + "\x8a\x01b" + second + third
		case taken < 7:
			want = first + second + "\x8a\x01b" + third
		case taken < 10:
			want = first + second + third + "\x8a\x01b"
		default:
			want = first + second + third + "\x8a\x01a\x8a\x01b"
		}
		if s != want {
			t.Fatalf("%d taken: %q went out, want %q", taken, s, want)
		}
	}
}

// P16.1: where an end was sent, a ping isn't answered, whether the end went out or waits, and a pong that waits keeps its data.
func TestPongBehindAnEnd(t *testing.T) {
	for _, out := range []int{1, 3, 6, 100} {
		l := pinged(t, out, "a", "b")
		if !l.Close(1000, "") {
			t.Fatal("no end")
		}
		pingMore(t, l, "c", "d")
		sameOut(t, fmt.Sprint("Out ", out), l, "\x8a\x01a\x8a\x01b\x88\x02\x03\xe8")
		pingMore(t, l, "e")
		if !l.Quiet() || l.Wrong() != 0 || l.Got() {
			t.Fatal("a ping behind an end isn't nothing")
		}
	}
	for _, m := range []bool{true, false} {
		l := made(t, config(20, 2, 1), m, 4)
		l.Feed([]byte(in(m, 137, "a") + in(m, 136, "") + in(m, 137, "b")))
		if s := went(t, l, m, 4); s != "\x8a\x01a\x88\x00" {
			t.Fatalf("%q went out", s)
		}
	}
}
