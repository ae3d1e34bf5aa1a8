package leg_test

import (
	"fmt"
	"math"
	"strings"
	"testing"

	"pendentive/api"
	"pendentive/leg"
)

// P16.2: a message is sent as frames, as many bytes each as c's Frame says.
func TestSend(t *testing.T) {
	for _, x := range []struct {
		frame int
		e     api.Event
		want  string
	}{
		{2, api.Event{Op: 1, Data: "abc"}, "\x01\x02ab\x80\x01c"},
		{2, api.Event{Op: 2, Data: "abcd"}, "\x02\x02ab\x80\x02cd"},
		{2, api.Event{Op: 2, Data: "ab"}, "\x82\x02ab"},
		{2, api.Event{Op: 1}, "\x81\x00"},
		{2, api.Event{Op: 2}, "\x82\x00"},
		{1, api.Event{Op: 1, Data: "é!"}, "\x01\x01\xc3\x00\x01\xa9\x80\x01!"},
		{3, api.Event{Op: 1, Data: "\xff"}, "\x81\x01\xff"},
		{20, api.Event{Op: 2, Data: "12345678901234567890"}, "\x82\x1412345678901234567890"},
		{65536, api.Event{Op: 2, Data: "12345678901234567890"}, "\x82\x1412345678901234567890"},
		{19, api.Event{Op: 2, Data: "12345678901234567890"}, "\x02\x131234567890123456789\x80\x010"},
		{10, api.Event{Op: 2, Data: "12345678901234567890"}, "\x02\x0a1234567890\x80\x0a1234567890"},
		{2, api.Event{Op: 1, Code: 1000, Data: "abc"}, "\x01\x02ab\x80\x01c"},
		{2, api.Event{Op: 2, Code: -1, Data: ""}, "\x82\x00"},
	} {
		for _, m := range []bool{true, false} {
			for _, out := range []int{1, 2, 3, 7, 65536} {
				l := made(t, config(20, x.frame, out), m, 6)
				if !l.Free() || !l.Send(x.e) || l.Sent() || l.Quiet() {
					t.Fatalf("%+v isn't sent", x.e)
				}
				if s := went(t, l, m, 6); s != x.want || !l.Free() {
					t.Fatalf("%+v, Frame %d, Out %d: %q went out, want %q", x.e, x.frame, out, s, x.want)
				}
			}
		}
	}
}

// refused tries acts to a side that mustn't do them, and holds it against what it was ahead of them.
func refused(t *testing.T, what string, l *leg.Leg, acts ...act) {
	t.Helper()
	ahead := standsOf(l)
	for _, a := range acts {
		if do(l, a).is {
			t.Fatalf("%s: %s of %d bytes (op %d, code %d) is done", what, a.kind, len(a.data), a.op, a.code)
		}
		if is := standsOf(l); is != ahead {
			t.Fatalf("%s: behind %s of %d bytes (op %d, code %d), that isn't done: %+v, want %+v", what, a.kind, len(a.data), a.op, a.code, is.shortly(), ahead.shortly())
		}
	}
}

// P16.2: Send of each kind of event: a text and bytes alone are sent.
func TestSendEachKind(t *testing.T) {
	l := made(t, config(20, 2, 3), true, 0)
	ops := []int{0, -1, -2, math.MinInt, math.MinInt + 1, math.MaxInt, 1<<32 + 1, 1<<32 + 2, 256 + 1, 128 + 1, 1<<31 + 2}
	for op := 3; op < 300; op++ {
		ops = append(ops, op)
	}
	for _, op := range ops {
		for _, data := range []string{"", "abc", strings.Repeat("x", 20)} {
			refused(t, "an event that is none", l, act{kind: "send", op: op, data: data})
		}
	}
	sameOut(t, "nothing", l, "")
	for i, op := range []int{1, 2} {
		if !l.Send(api.Event{Op: op, Data: "abc"}) {
			t.Fatalf("op %d isn't sent", op)
		}
		sameOut(t, "op", l, []string{"\x01\x02ab\x80\x01c", "\x02\x02ab\x80\x01c"}[i])
	}
}

// P16.2: Send of messages round the greatest size, by the least and the greatest Frame, and some between.
func TestSendSizes(t *testing.T) {
	for _, message := range []int{1, 2, 3, 124, 125, 126, 1000, 65535, 65536} {
		for _, frame := range []int{1, 2, 125, 126, 65535, 65536} {
			for _, size := range []int{0, 1, message - 1, message} {
				l := made(t, config(message, frame, 65536), true, 0)
				what := fmt.Sprintf("Message %d, Frame %d, %d bytes", message, frame, size)
				long := strings.Repeat("y", message+1)
				refused(t, what, l, act{kind: "send", op: 1, data: long}, act{kind: "send", op: 2, data: long})
				e := api.Event{Op: 2, Data: strings.Repeat("x", size)}
				if !l.Send(e) {
					t.Fatalf("%s: not sent", what)
				}
				out := drain(t, l, 65536)
				g := readGone(t, what, out, config(message, frame, 65536), true, 0)
				g.hold(t, what, []api.Event{e}, false)
				if n := max(1, (size+frame-1)/frame); strings.Count(out, "\x00\x01x") > n || len(out) < size+2*n || len(out) > size+10*n {
					t.Fatalf("%s: %d bytes went out, in %d frames", what, len(out), n)
				}
			}
		}
	}
}

// P16.2: Send of messages that are far too long.
func TestSendTooLong(t *testing.T) {
	for _, message := range []int{1, 2, 300, 65536} {
		l := made(t, config(message, 65536, 65536), true, 0)
		for _, size := range []int{message + 2, message + 256, message + 65536, 1 << 20, 1<<20 + 1, 1 << 24} {
			refused(t, "too long a message", l, act{kind: "send", op: 1, data: strings.Repeat("x", size)}, act{kind: "send", op: 2, data: strings.Repeat("x", size)})
		}
		sameOut(t, "nothing", l, "")
	}
}

// notFree are sides that mustn't send a message, each by one thing as far as there is one alone, and what goes out of them.
func notFree(t *testing.T) []struct {
	name  string
	l     *leg.Leg
	ended bool // or the rest isn't empty
	out   string
} {
	t.Helper()
	side := func(out int, how func(l *leg.Leg)) *leg.Leg {
		l := made(t, config(20, 2, out), true, 0)
		how(l)
		return l
	}
	type row = struct {
		name  string
		l     *leg.Leg
		ended bool
		out   string
	}
	sent := func(l *leg.Leg) { l.Close(1000, "bye") }
	got := func(l *leg.Leg) { l.Feed([]byte(in(true, 136, "\x03\xe8"))) }
	wrong := func(l *leg.Leg) { l.Feed([]byte(in(true, 128, ""))) }
	badStream := func(l *leg.Leg) { l.Feed([]byte("\xff")) }
	rest := func(l *leg.Leg) { l.Send(api.Event{Op: 1, Data: "abcde"}) }
	took := func(how func(*leg.Leg)) func(*leg.Leg) {
		return func(l *leg.Leg) { how(l); l.Take(100) }
	}
	return []row{
		{"an end was sent", side(100, sent), true, "\x88\x05\x03\xe8bye"},
		{"an end was sent, and went out", side(100, took(sent)), true, ""},
		{"an end came", side(100, got), true, "\x88\x02\x03\xe8"},
		{"an end came, and the answer went out", side(100, took(got)), true, ""},
		{"a frame was wrong", side(100, wrong), true, "\x88\x02\x03\xea"},
		{"a frame was wrong, and the end went out", side(100, took(wrong)), true, ""},
		{"the stream was wrong", side(100, badStream), true, "\x88\x02\x03\xea"},
		{"the stream was wrong, and the end went out", side(100, took(badStream)), true, ""},
		{"an end was sent, and one came", side(100, func(l *leg.Leg) { sent(l); got(l) }), true, "\x88\x05\x03\xe8bye"},
		{"an end was sent, and something was wrong", side(100, func(l *leg.Leg) { sent(l); wrong(l) }), true, "\x88\x05\x03\xe8bye"},
		{"an end waits", side(1, func(l *leg.Leg) { rest(l); sent(l) }), true, "\x01\x02ab\x88\x05\x03\xe8bye"},
		{"the rest isn't empty", side(1, rest), false, "\x01\x02ab\x00\x02cd\x80\x01e"},
		{"one frame is the rest", side(3, func(l *leg.Leg) { rest(l); l.Take(4) }), false, "b\x00\x02cd\x80\x01e"},
	}
}

// P16.2: Send, where each of the four that Free asks for fails: false, and nothing is done; Ping and Close too, but where the rest alone isn't empty.
func TestNotFree(t *testing.T) {
	sends := []act{{kind: "send", op: 1, data: "abc"}, {kind: "send", op: 2}, {kind: "send", op: 1, data: strings.Repeat("x", 20)}, {kind: "send", op: 8}}
	others := []act{{kind: "ping"}, {kind: "ping", data: "p"}, {kind: "close", code: 1000}, {kind: "close"}, {kind: "close", code: 4999, data: "words"}, {kind: "close", code: 1005}}
	for _, x := range notFree(t) {
		if x.l.Free() {
			t.Fatalf("%s: free", x.name)
		}
		refused(t, x.name, x.l, sends...)
		if x.ended {
			refused(t, x.name, x.l, others...)
		}
		sameOut(t, x.name, x.l, x.out)
		if x.l.Free() == x.ended {
			t.Fatalf("%s: all went out: free %v", x.name, x.l.Free())
		}
	}
	for _, x := range notFree(t) {
		if !x.ended && (!x.l.Ping("p") || x.l.Free() || !x.l.Close(1000, "") || x.l.Free()) {
			t.Errorf("%s: no ping, or no end", x.name)
		}
	}
}

// P16.2: a side is free as soon as the last frame of a message has become the tail, while bytes of it wait.
func TestFreeWhileBytesWait(t *testing.T) {
	for out := 1; out <= 12; out++ {
		l := made(t, config(20, 2, out), true, 0)
		l.Send(api.Event{Op: 1, Data: "abcde"}) // frames of 4, 4 and 3 bytes
		for taken := range 12 {
			if free := taken+out >= 8; l.Free() != free || l.Quiet() != (taken == 11) {
				t.Fatalf("Out %d, %d taken: free %v, quiet %v", out, taken, l.Free(), l.Quiet())
			}
			l.Take(1)
		}
	}
	// A message behind another one, of which bytes wait.
	l := made(t, config(20, 2, 1), true, 0)
	for i, data := range []string{"a", "b"} {
		if !l.Send(api.Event{Op: 2, Data: data}) || l.Free() != (i == 0) {
			t.Fatalf("%q: free %v", data, l.Free())
		}
	}
	refused(t, "a message waits", l, act{kind: "send", op: 2, data: "c"})
	sameOut(t, "two messages", l, "\x82\x01a\x82\x01b")
}

// P16.2: Ping with 0, 125 and 126 bytes, and others.
func TestPing(t *testing.T) {
	for _, m := range []bool{true, false} {
		for _, out := range []int{1, 2, 127, 300} {
			l := made(t, config(20, 2, out), m, 5)
			want := ""
			for _, n := range []int{0, 1, 2, 124, 125, 0} {
				data := strings.Repeat("\xff", n)
				if !l.Ping(data) {
					t.Fatalf("%d bytes: no ping", n)
				}
				want += "\x89" + string([]byte{byte(n)}) + data
				for _, n := range []int{126, 127, 128, 255, 256, 257, 381, 65536, 65661, 1 << 20} {
					refused(t, "too long a ping", l, act{kind: "ping", data: strings.Repeat("x", n)})
				}
			}
			if l.Sent() || !l.Free() || went(t, l, m, 5) != want {
				t.Fatalf("Out %d, masked %v: other pings went out", out, m)
			}
		}
	}
}

// P16.2: pings are asked while a message goes out, and ahead of what is left of it; in order.
func TestPingWithinMessage(t *testing.T) {
	l := made(t, config(20, 2, 1), true, 0)
	l.Send(api.Event{Op: 2, Data: "1234"})
	if !l.Ping("a") || !l.Ping("a") || !l.Ping("") || l.Free() {
		t.Fatal("no ping")
	}
	sameOut(t, "pings", l, "\x02\x0212\x89\x01a\x89\x01a\x89\x00\x80\x0234")
}

// P16.2: Close with each code, with words and without: an end, if the code may be put.
func TestCloseCodes(t *testing.T) {
	l := made(t, config(20, 2, 100), true, 0)
	codes := []int{-1, -1000, math.MinInt, math.MaxInt, math.MinInt + 1000, 1<<32 + 1000, 1<<16 + 1000, 1 << 16, 1 << 32, -(1 << 32), 1<<31 + 3000}
	for code := range 6000 {
		codes = append(codes, code)
	}
	for _, code := range codes {
		for _, words := range []string{"", "x", "é"} {
			if !mayBeSent(code) && (code != 0 || words != "") {
				refused(t, "a code that may not be put", l, act{kind: "close", code: code, data: words})
				continue
			}
			fresh := made(t, config(20, 2, 100), true, 0)
			if !fresh.Close(code, words) || !fresh.Sent() || fresh.Got() || fresh.Wrong() != 0 || fresh.Free() {
				t.Fatalf("Close(%d, %q): no end", code, words)
			}
			want := string([]byte{byte(code >> 8), byte(code)}) + words
			if code == 0 {
				want = ""
			}
			sameOut(t, fmt.Sprintf("Close(%d, %q)", code, words), fresh, "\x88"+string([]byte{byte(len(want))})+want)
		}
	}
	if !l.Free() || !l.Close(1000, "") {
		t.Error("behind ends that may not be none is sent")
	}
}

// P16.2: Close with words of 123 bytes, of 124, and such as aren't whole letters.
func TestCloseWords(t *testing.T) {
	good := []string{"", "w", strings.Repeat("w", 122), strings.Repeat("w", 123), strings.Repeat("é", 61) + "w", "\x00", strings.Repeat("€", 41), "\U0010ffff"}
	bad := []string{strings.Repeat("w", 124), strings.Repeat("é", 62), strings.Repeat("w", 125), strings.Repeat("w", 256), strings.Repeat("w", 1<<16+5), "\xff", "a\xc3", "\xa9", "\xed\xa0\x80", strings.Repeat("w", 122) + "\xc3", "\xf4\x90\x80\x80", "\xc0\x80", strings.Repeat("\xff", 200)}
	for _, m := range []bool{true, false} {
		for _, words := range good {
			l := made(t, config(20, 2, 3), m, 8)
			l.Ping("p")
			for _, other := range bad {
				refused(t, "words that may not be", l, act{kind: "close", code: 1000, data: other}, act{kind: "close", code: 0, data: other})
			}
			if !l.Free() || !l.Close(3000, words) {
				t.Fatalf("no end with %d bytes of words", len(words))
			}
			if s := went(t, l, m, 8); s != "\x89\x01p\x88"+string([]byte{byte(2 + len(words))})+"\x0b\xb8"+words {
				t.Fatalf("%q went out", short(s))
			}
		}
	}
}

// P16.2: an end makes the rest nothing; it stands behind all control frames, and is sent once; where it isn't sent the rest stays.
func TestCloseWithRest(t *testing.T) {
	for _, code := range []int{0, 1001} {
		l := made(t, config(20, 2, 1), true, 0)
		l.Send(api.Event{Op: 1, Data: "abcdefgh"})
		l.Ping("1")
		l.Feed([]byte(in(true, 137, "a")))
		l.Ping("2")
		refused(t, "ends that may not be", l, act{kind: "close", code: 1005}, act{kind: "close", data: "x"}, act{kind: "close", code: 1000, data: "\xff"})
		if l.Free() || l.Sent() || !l.Close(code, "") || l.Free() || !l.Sent() {
			t.Fatal("no end")
		}
		refused(t, "an end was sent", l, act{kind: "close", code: code}, act{kind: "close", code: 1000}, act{kind: "ping"}, act{kind: "send", op: 1})
		want := "\x88\x02\x03\xe9"
		if code == 0 {
			want = "\x88\x00"
		}
		sameOut(t, "an end", l, "\x01\x02ab\x89\x011\x8a\x01a\x89\x012"+want)
		refused(t, "an end went out", l, act{kind: "close", code: code}, act{kind: "ping"}, act{kind: "send", op: 2})
	}
	l := made(t, config(20, 2, 1), true, 0)
	l.Send(api.Event{Op: 1, Data: "abc"})
	refused(t, "ends that may not be", l, act{kind: "close", code: 1004}, act{kind: "close", code: 1000, data: strings.Repeat("x", 124)})
	sameOut(t, "no end", l, "\x01\x02ab\x80\x01c")
}

// P16.2: once an end was sent what comes is heard still: messages, pongs, and the end, which is answered no more.
func TestHeardBehindClose(t *testing.T) {
	l := made(t, config(20, 2, 100), true, 0)
	if !l.Close(1000, "") || l.Got() {
		t.Fatal("no end")
	}
	told := l.Feed([]byte(in(true, 129, "a") + in(true, 138, "b") + in(true, 137, "c") + in(true, 2, "d")))
	sameEvents(t, "behind an end", told, []api.Event{text("a"), pong("b")})
	if l.Kept() != 1 || l.Got() {
		t.Errorf("%d kept", l.Kept())
	}
	told = l.Feed([]byte(in(true, 136, "\x0f\xa0w")))
	sameEvents(t, "an end behind an end", told, []api.Event{end(4000, "w")})
	if !l.Got() || l.Kept() != 0 {
		t.Error("no end came")
	}
	sameOut(t, "one end", l, "\x88\x02\x03\xe8")
}
