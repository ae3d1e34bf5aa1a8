package leg_test

import (
	"fmt"
	"math"
	"strings"
	"testing"

	"pendentive/api"
	"pendentive/leg"
)

// P16.3: Peek and Take of 0, less than, as many as, and more than is there, and below 0.
func TestPeekAndTake(t *testing.T) {
	for _, out := range []int{1, 2, 3, 6, 15, 16, 65536} {
		// Frames of 4, 4 and 3 bytes.
		const all = "\x02\x0212\x00\x0234\x80\x015"
		for taken := range len(all) + 1 {
			l := made(t, config(20, 2, out), true, 0)
			l.Send(api.Event{Op: 2, Data: "12345"})
			for range taken {
				l.Take(1)
			}
			there := all[taken:min(len(all), taken+out)]
			for _, n := range []int{0, -1, -2, -3, -4, math.MinInt, math.MinInt + 1, -(1 << 32), -(1 << 31)} {
				if s := string(l.Peek(n)) + string(l.Take(n)); s != "" {
					t.Fatalf("Out %d, %d taken: Peek, Take(%d): %q", out, taken, n, s)
				}
			}
			for _, n := range []int{1, 2, len(there) - 1, len(there), len(there) + 1, out, out + 1, 65536, 1 << 31, 1<<32 + 1, math.MaxInt} {
				want := there[:max(0, min(n, len(there)))]
				if s := string(l.Peek(n)); s != want {
					t.Fatalf("Out %d, %d taken: Peek(%d): %q, want %q", out, taken, n, s, want)
				}
			}
			for _, n := range []int{len(there), len(there) - 1, math.MaxInt} {
				want := there[:max(0, min(n, len(there)))]
				if s := string(l.Take(n)); s != want {
					t.Fatalf("Out %d, %d taken: Take(%d): %q, want %q", out, taken, n, s, want)
				}
				taken += len(want)
				there = all[taken:min(len(all), taken+out)]
				if s := string(l.Peek(65536)); s != there || l.Quiet() != (there == "") {
					t.Fatalf("Out %d, %d taken: Peek: %q, want %q", out, taken, s, there)
				}
			}
		}
	}
}

// P16.3: bit by bit until all is quiet: however many bytes go out at a time, all of them are the same.
func TestBitByBit(t *testing.T) {
	data := strings.Repeat("0123456789abcdef", 40)
	for _, m := range []bool{false, true} {
		whole := ""
		for _, out := range []int{65536, 1, 2, 3, 5, 64, 1000} {
			for _, at := range []int{1, 2, 3, 7, 64, 65536} {
				l := made(t, config(640, 9, out), m, 1<<31)
				l.Send(api.Event{Op: 1, Data: data})
				if whole == "" {
					whole = drain(t, l, at)
				} else if s := drain(t, l, at); s != whole {
					t.Fatalf("Out %d, %d at a time: other bytes went out: %q", out, at, short(s))
				}
			}
		}
		if !m {
			whole = unmasked(t, whole, 1<<31)
		}
		if len(whole) != 640+2*72 || !strings.HasPrefix(whole, "\x01\x09012345678\x00\x099abcdef01") || !strings.HasSuffix(whole, "\x80\x01f") {
			t.Fatalf("%d bytes went out: %q", len(whole), short(whole))
		}
	}
}

// P16.3: the greatest Out, all of which waits, and more behind it.
func TestGreatOut(t *testing.T) {
	c := config(65536, 65536, 65536)
	for _, m := range []bool{false, true} {
		l := made(t, c, m, 5)
		data := strings.Repeat("0123456789abcdef", 4096)
		for i := range 2 {
			if !l.Free() || !l.Send(api.Event{Op: 2, Data: data}) || l.Free() != (i == 0) {
				t.Fatal("not sent")
			}
		}
		if n := len(l.Peek(math.MaxInt)); n != 65536 {
			t.Fatalf("%d bytes wait in the ring", n)
		}
		frame := "\x82\x7f\x00\x00\x00\x00\x00\x01\x00\x00" + data
		if s := went(t, l, m, 5); s != frame+frame {
			t.Fatalf("%d bytes went out: %q", len(s), short(s))
		}
	}
}

// P16.3: what a side says of itself behind each act.
func TestStands(t *testing.T) {
	l := made(t, config(20, 2, 6), true, 0)
	for i, x := range []struct {
		a    act
		is   bool
		told []api.Event
		out  string
		want stands
	}{
		{act{kind: "feed", data: ""}, false, nil, "", stands{free: true, quiet: true}},
		{act{kind: "take", n: 9}, false, nil, "", stands{free: true, quiet: true}},
		{act{kind: "feed", data: "\x01"}, false, nil, "", stands{free: true, quiet: true, kept: 1}},
		{act{kind: "feed", data: "\x83\x01\x02\x03\x04a"}, false, nil, "", stands{free: true, quiet: true, kept: 7}},
		{act{kind: "feed", data: "bc"}, false, nil, "", stands{free: true, quiet: true, kept: 3}},
		{act{kind: "feed", data: "\x00\x80\x01\x02\x03"}, false, nil, "", stands{free: true, quiet: true, kept: 8}},
		{act{kind: "feed", data: "\x04\x89\x81\x00\x00\x00\x00?\x80"}, false, nil, "", stands{free: true, kept: 4, out: "\x8a\x01?"}},
		{act{kind: "take", n: 1}, false, nil, "\x8a", stands{free: true, kept: 4, out: "\x01?"}},
		{act{kind: "send", op: 1, data: "12345"}, true, nil, "", stands{kept: 4, out: "\x01?\x01\x0212"}},
		{act{kind: "ping", data: "!"}, true, nil, "", stands{kept: 4, out: "\x01?\x01\x0212"}},
		{act{kind: "feed", data: "\x80\x00\x00\x00\x00"}, false, []api.Event{text("\x60\x60\x60")}, "", stands{out: "\x01?\x01\x0212"}},
		{act{kind: "take", n: 5}, false, nil, "\x01?\x01\x021", stands{out: "2\x00\x0234\x89"}},
		{act{kind: "take", n: 2}, false, nil, "2\x00", stands{free: true, out: "\x0234\x89\x01!"}},
		{act{kind: "take", n: 1}, false, nil, "\x02", stands{free: true, out: "34\x89\x01!\x80"}},
		{act{kind: "close", code: 1000, data: "ok"}, true, nil, "", stands{sent: true, out: "34\x89\x01!\x80"}},
		{act{kind: "take", n: 6}, false, nil, "34\x89\x01!\x80", stands{sent: true, out: "\x015\x88\x04\x03\xe8"}},
		{act{kind: "feed", data: "\x89\x80\x00\x00\x00\x00\x8a\x80\x00\x00\x00\x00\x02\x81\x00\x00\x00\x00m"}, false, []api.Event{pong("")}, "", stands{sent: true, kept: 1, out: "\x015\x88\x04\x03\xe8"}},
		{act{kind: "feed", data: "\x88\x80\x00\x00\x00\x00\x81\x80"}, false, []api.Event{end(1005, "")}, "", stands{sent: true, got: true, kept: 2, out: "\x015\x88\x04\x03\xe8"}},
		{act{kind: "feed", data: "\x00\x00\x00\x00\xff"}, false, nil, "", stands{sent: true, got: true, kept: 2, out: "\x015\x88\x04\x03\xe8"}},
		{act{kind: "take", n: 7}, false, nil, "\x015\x88\x04\x03\xe8", stands{sent: true, got: true, kept: 2, out: "ok"}},
		{act{kind: "take", n: 7}, false, nil, "ok", stands{sent: true, got: true, kept: 2, quiet: true}},
	} {
		what := fmt.Sprint("act ", i)
		is := do(l, x.a)
		sameEvents(t, what, is.told, x.told)
		if is.is != x.is || is.out != x.out {
			t.Fatalf("%s: %v %q, want %v %q", what, is.is, is.out, x.is, x.out)
		}
		if is := standsOf(l); is != x.want {
			t.Fatalf("%s: %+v, want %+v", what, is, x.want)
		}
	}
}

// P16.3: what a side says of itself where something is wrong: it stays so.
func TestStandsWrong(t *testing.T) {
	for _, before := range []bool{false, true} {
		l := made(t, config(20, 2, 1), true, 0)
		l.Feed([]byte(in(true, 1, "abc")))
		l.Send(api.Event{Op: 1, Data: "12345"})
		if before {
			l.Close(1000, "")
		}
		l.Feed([]byte(in(true, 0, "d") + "\xff"))
		for range 20 {
			if l.Wrong() != 91 || !l.Sent() || l.Got() || l.Free() || l.Kept() != 4 {
				t.Fatalf("wrong %d, sent %v, got %v, free %v, %d kept", l.Wrong(), l.Sent(), l.Got(), l.Free(), l.Kept())
			}
			l.Feed([]byte(in(true, 128, "\xff")))
			l.Take(1)
		}
		if !l.Quiet() {
			t.Error("not quiet")
		}
	}
}

// keysOf is the masks of all frames that go out of a side, as words of eight letters, and their first bytes.
func keysOf(t *testing.T, l *leg.Leg) string {
	t.Helper()
	out := ""
	for b := []byte(drain(t, l, 1)); len(b) > 0; {
		p, n, wrong := unwire(b, true, 1<<17)
		if n == 0 || wrong != 0 {
			t.Fatalf("%q is no masked frame", short(string(b)))
		}
		out += fmt.Sprintf("%02x:%x ", p.first, p.key)
		b = b[n:]
	}
	return out
}

// P16.3, and the section 'Words': masks from several draws, the least and the greatest; which frame takes which draw, where control frames come between a message's frames.
func TestWhichMask(t *testing.T) {
	for _, x := range []struct {
		draw uint32
		keys []string
	}{
		{0, []string{"3c6ef35f", "47502932", "d1ccf6e9", "aaf95334", "6252e503", "9f2ec686", "57fe6c2d"}},
		{1, []string{"3c88596c", "5e8885db", "8116017e", "b4733ac5"}},
		{1 << 31, []string{"bc6ef35f", "c7502932", "51ccf6e9"}},
		{math.MaxUint32, []string{"3c558d52"}},
		{1013904223, []string{"47502932", "d1ccf6e9"}},
		{0x6252e503, []string{"9f2ec686", "57fe6c2d"}},
	} {
		l := made(t, config(20, 2, 6), false, x.draw)
		l.Send(api.Event{Op: 1, Data: strings.Repeat("x", 2*len(x.keys)-1)})
		want := ""
		for i, key := range x.keys {
			first := 0
			if i == 0 {
				first++
			}
			if i == len(x.keys)-1 {
				first += 128
			}
			want += fmt.Sprintf("%02x:%s ", first, key)
		}
		if is := keysOf(t, l); is != want {
			t.Errorf("draw %d: %s, want %s", x.draw, is, want)
		}
	}
}

// P16.3: the draws are taken by the frames in the order in which they become the tail.
func TestMaskBetween(t *testing.T) {
	for _, x := range []struct {
		out  int
		want string
	}{
		// A frame has 6 bytes and its data. With room for one byte the first one is the tail when the others come.
		{1, "02:3c6ef35f 89:47502932 8a:d1ccf6e9 00:aaf95334 80:6252e503 "},
		{7, "02:3c6ef35f 89:47502932 8a:d1ccf6e9 00:aaf95334 80:6252e503 "},
		// The second frame is the tail as soon as the ring is full by the first one.
		{8, "02:3c6ef35f 00:47502932 89:d1ccf6e9 8a:aaf95334 80:6252e503 "},
		{15, "02:3c6ef35f 00:47502932 89:d1ccf6e9 8a:aaf95334 80:6252e503 "},
		{16, "02:3c6ef35f 00:47502932 80:d1ccf6e9 89:aaf95334 8a:6252e503 "},
		{100, "02:3c6ef35f 00:47502932 80:d1ccf6e9 89:aaf95334 8a:6252e503 "},
	} {
		l := made(t, config(20, 2, x.out), false, 0)
		l.Send(api.Event{Op: 2, Data: "12345"})
		l.Ping("p")
		l.Feed([]byte(in(false, 137, "q")))
		l.Peek(100)
		if is := keysOf(t, l); is != x.want {
			t.Errorf("Out %d: %s, want %s", x.out, is, x.want)
		}
	}
	// What never becomes the tail takes no draw: the rest, where an end is sent; a pong that has other data takes one.
	l := made(t, config(20, 2, 1), false, 0)
	l.Send(api.Event{Op: 2, Data: "12345"})
	l.Feed([]byte(in(false, 137, "q") + in(false, 137, "r")))
	l.Close(1000, "")
	if is := keysOf(t, l); is != "02:3c6ef35f 8a:47502932 88:d1ccf6e9 " {
		t.Errorf("an end: %s", is)
	}
}

// P16.3: frames of nothing are masked too, and no frame is, where masked ones come.
func TestMaskOfNothing(t *testing.T) {
	l := made(t, config(20, 2, 100), false, 0)
	l.Send(api.Event{Op: 1})
	l.Ping("")
	l.Feed([]byte(in(false, 137, "") + in(false, 136, "")))
	if s := drain(t, l, 5); s != "\x81\x80\x3c\x6e\xf3\x5f\x89\x80\x47\x50\x29\x32\x8a\x80\xd1\xcc\xf6\xe9\x88\x80\xaa\xf9\x53\x34" {
		t.Errorf("%q went out", s)
	}
	l = made(t, config(20, 2, 100), true, 0)
	l.Send(api.Event{Op: 1})
	l.Ping("")
	l.Feed([]byte(in(true, 137, "") + in(true, 136, "")))
	if s := drain(t, l, 5); s != "\x81\x00\x89\x00\x8a\x00\x88\x00" {
		t.Errorf("%q went out", s)
	}
}

// P16.3: a mask turns the data from its first byte on, in each frame anew.
func TestMaskTurns(t *testing.T) {
	l := made(t, config(20, 5, 100), false, 0)
	l.Send(api.Event{Op: 2, Data: "\x00\x00\x00\x00\x00\xff\xff"})
	if s := drain(t, l, 5); s != "\x02\x85\x3c\x6e\xf3\x5f\x3c\x6e\xf3\x5f\x3c\x80\x82\x47\x50\x29\x32\xb8\xaf" {
		t.Errorf("%q went out", s)
	}
}

// P16.3: the masks go on: the draws of many frames, each by the last one.
func TestManyMasks(t *testing.T) {
	for _, draw := range []uint32{0, 1, 12345, 1 << 31, math.MaxUint32} {
		l := made(t, config(65536, 1, 65536), false, draw)
		for range 3 {
			l.Send(api.Event{Op: 2, Data: strings.Repeat("m", 5000)})
			unmasked(t, drain(t, l, 65536), draw)
			for range 5000 {
				draw = after(draw)
			}
		}
	}
}
