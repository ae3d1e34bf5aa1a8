package leg_test

import (
	"fmt"
	"strings"
	"testing"

	"pendentive/api"
)

// feeding is what comes to a side, and what it comes to: each is tried with masked frames, and with others.
type feeding struct {
	name string
	came func(m bool) string
	told []api.Event
	out  string // what goes out
	got  bool
	bad  api.Errno
	kept int // in one piece
}

// text, pong and end are events.
func text(data string) api.Event           { return api.Event{Op: 1, Data: data} }
func pong(data string) api.Event           { return api.Event{Op: 10, Data: data} }
func end(code int, words string) api.Event { return api.Event{Op: 8, Code: code, Data: words} }

// all is frames that come, each a first byte and data.
func all(m bool, l ...any) string {
	out := ""
	for i := 0; i < len(l); i += 2 {
		out += in(m, byte(l[i].(int)), l[i+1].(string))
	}
	return out
}

// second is a frame's second byte: a length's first, and 128 more, if it is masked.
func second(m bool, n byte) string {
	if m {
		n += 128
	}
	return string([]byte{n})
}

// frames is frames that come.
func frames(l ...any) func(bool) string { return func(m bool) string { return all(m, l...) } }

// goodFeedings are such that nothing is wrong.
func goodFeedings() []feeding {
	long := strings.Repeat("p", 125)
	return []feeding{
		{name: "nothing", came: frames()},
		{name: "a text", came: frames(129, "ab"), told: []api.Event{text("ab")}},
		{name: "a text of nothing", came: frames(129, ""), told: []api.Event{text("")}},
		{name: "bytes", came: frames(130, "\xff\x00"), told: []api.Event{{Op: 2, Data: "\xff\x00"}}},
		{name: "a message of Message bytes", came: frames(129, "12345678901234567890"), told: []api.Event{text("12345678901234567890")}},
		{name: "a message in two frames", came: frames(1, "ab", 128, "c"), told: []api.Event{text("abc")}},
		{name: "a letter in two frames", came: frames(1, "\xc3", 128, "\xa9"), told: []api.Event{text("é")}},
		{name: "nothing in three frames", came: frames(2, "", 0, "", 128, ""), told: []api.Event{{Op: 2}}},
		{name: "Message bytes in four frames", came: frames(2, "12345", 0, "6789012345", 0, "67890", 128, ""), told: []api.Event{{Op: 2, Data: "12345678901234567890"}}},
		{name: "two messages", came: frames(129, "a", 2, "b", 128, "c"), told: []api.Event{text("a"), {Op: 2, Data: "bc"}}},
		{name: "a message that isn't there to its end", came: frames(1, "abc"), kept: 3},
		{name: "a frame that isn't there to its end", came: func(m bool) string { return "\x82" + second(m, 9) }, kept: 2},
		{name: "both", came: func(m bool) string { return all(m, 1, "abc", 0, "de") + "\x80" }, kept: 6},
		{name: "a ping", came: frames(137, "p"), out: "\x8a\x01p"},
		{name: "a ping of nothing", came: frames(137, ""), out: "\x8a\x00"},
		{name: "a ping of 125 bytes", came: frames(137, long), out: "\x8a\x7d" + long},
		{name: "pings", came: frames(137, "p", 137, "", 137, "p"), out: "\x8a\x01p\x8a\x00\x8a\x01p"},
		{name: "a ping within a message", came: frames(1, "a", 137, "p", 128, "b"), told: []api.Event{text("ab")}, out: "\x8a\x01p"},
		{name: "all within a message", came: frames(1, "a", 137, "p", 138, "q", 0, "b", 137, "r", 128, ""), told: []api.Event{pong("q"), text("ab")}, out: "\x8a\x01p\x8a\x01r"},
		{name: "pings between messages", came: frames(129, "a", 137, "p", 130, "b", 137, "q"), told: []api.Event{text("a"), {Op: 2, Data: "b"}}, out: "\x8a\x01p\x8a\x01q"},
		{name: "a pong", came: frames(138, "p"), told: []api.Event{pong("p")}},
		{name: "a pong of nothing", came: frames(138, ""), told: []api.Event{pong("")}},
		{name: "pongs", came: frames(138, long, 138, "", 138, "p"), told: []api.Event{pong(long), pong(""), pong("p")}},
	}
}

// endFeedings are such that an end comes.
func endFeedings() []feeding {
	words := strings.Repeat("w", 121) + "é"
	none, away := []api.Event{end(1005, "")}, []api.Event{end(1001, "")}
	return []feeding{
		{name: "an end without a code", came: frames(136, ""), told: none, out: "\x88\x00", got: true},
		{name: "an end with a code", came: frames(136, "\x03\xe9"), told: away, out: "\x88\x02\x03\xe9", got: true},
		{name: "an end with words", came: frames(136, "\x0f\xa0bye"), told: []api.Event{end(4000, "bye")}, out: "\x88\x02\x0f\xa0", got: true},
		{name: "an end with 123 bytes of words", came: frames(136, "\x03\xe8"+words), told: []api.Event{end(1000, words)}, out: "\x88\x02\x03\xe8", got: true},
		{name: "an end twice", came: frames(136, "\x03\xe9", 136, "\x03\xe8"), told: away, out: "\x88\x02\x03\xe9", got: true},
		{name: "the same end twice", came: frames(136, "", 136, ""), told: none, out: "\x88\x00", got: true},
		{name: "an end within a message", came: frames(1, "abc", 136, "\x03\xe9"), told: away, out: "\x88\x02\x03\xe9", got: true},
		{name: "an end behind all", came: frames(129, "a", 137, "p", 138, "q", 136, "\x03\xe9"), told: []api.Event{text("a"), pong("q"), end(1001, "")}, out: "\x8a\x01p\x88\x02\x03\xe9", got: true},
		{name: "frames behind an end", came: frames(136, "\x03\xe9", 129, "a", 137, "p", 138, "q"), told: away, out: "\x88\x02\x03\xe9", got: true},
		{name: "a message that isn't there to its end behind an end", came: frames(136, "\x03\xe9", 1, "abc"), told: away, out: "\x88\x02\x03\xe9", got: true},
		{name: "a frame that isn't there to its end behind an end", came: func(m bool) string { return all(m, 136, "\x03\xe9", 129, "a") + "\x82" + second(m, 9) }, told: away, out: "\x88\x02\x03\xe9", got: true, kept: 2},
		{name: "what is no frame behind an end", came: func(m bool) string { return all(m, 136, "") + "\xff\xff\xff" }, told: none, out: "\x88\x00", got: true},
		{name: "the other kind of frames behind an end", came: func(m bool) string { return all(m, 136, "", 129, "x") + all(!m, 129, "a") }, told: none, out: "\x88\x00", got: true},
		{name: "a wrong frame behind an end", came: frames(136, "", 128, "a", 129, "\xff"), told: none, out: "\x88\x00", got: true},
		{name: "a wrong end behind an end", came: frames(136, "", 136, "\x03"), told: none, out: "\x88\x00", got: true},
	}
}

// wrongFeedings are such that something is wrong.
func wrongFeedings() []feeding {
	const form, text7, long = "\x88\x02\x03\xea", "\x88\x02\x03\xef", "\x88\x02\x03\xf1"
	tail := func(s string) func(bool) string { return func(bool) string { return s } }
	with := func(first string, n byte, behind string) func(bool) string {
		return func(m bool) string { return first + second(m, n) + behind }
	}
	words := strings.Repeat("w", 123)
	return []feeding{
		{name: "a bit of 64", came: tail("\xc1"), bad: 91, out: form},
		{name: "a bit of 32", came: tail("\xa1"), bad: 91, out: form},
		{name: "a bit of 16", came: tail("\x91"), bad: 91, out: form},
		{name: "op 3", came: tail("\x83"), bad: 91, out: form},
		{name: "op 11", came: tail("\x8b"), bad: 91, out: form},
		{name: "a ping without Fin", came: tail("\x09"), bad: 91, out: form},
		{name: "an end without Fin", came: tail("\x08"), bad: 91, out: form},
		{name: "a ping of 126 bytes", came: with("\x89", 126, ""), bad: 91, out: form},
		{name: "an end of 126 bytes", came: with("\x88", 126, "\x00\x7e"), bad: 91, out: form},
		{name: "a length that could be shorter", came: with("\x82", 126, "\x00\x7d"), bad: 91, out: form},
		{name: "a length that could be shorter by more", came: with("\x82", 127, "\x00\x00\x00\x00\x00\x00"), bad: 91, out: form},
		{name: "a length that is too great for any", came: with("\x82", 127, "\x80"), bad: 91, out: form},
		{name: "a frame of the other kind", came: func(m bool) string { return in(!m, 129, "a") }, bad: 100, out: form},
		{name: "two bytes of one of the other kind", came: func(m bool) string { return in(!m, 137, "abc")[:2] }, bad: 100, out: form},
		{name: "a frame of 126 bytes", came: with("\x82", 126, "\x00\x7e"), bad: 92, out: long},
		{name: "a frame of 2^16 bytes", came: with("\x02", 127, "\x00\x00\x00\x00\x00\x01\x00\x00"), bad: 92, out: long},
		{name: "a frame of 2^63 - 1 bytes", came: with("\x82", 127, "\x7f\xff\xff\xff\xff\xff\xff\xff"), bad: 92, out: long},
		{name: "more of no message", came: frames(128, "a"), bad: 120, out: form},
		{name: "more of no message, and not to its end", came: frames(0, ""), bad: 120, out: form},
		{name: "more behind a message", came: frames(129, "a", 128, "b"), told: []api.Event{text("a")}, bad: 120, out: form},
		{name: "a message within one", came: frames(1, "a", 129, "b"), bad: 120, out: form},
		{name: "a message of bytes within one", came: frames(2, "a", 2, ""), bad: 120, out: form},
		{name: "a message of 21 bytes", came: frames(130, "123456789012345678901"), bad: 121, out: long},
		{name: "a message of 125 bytes", came: frames(1, strings.Repeat("a", 125)), bad: 121, out: long},
		{name: "21 bytes in three frames", came: frames(2, "1234567890", 0, "1234567890", 0, "1"), bad: 121, out: long},
		{name: "a text that is none", came: frames(129, "a\xff"), bad: 122, out: text7},
		{name: "a text that ends within a letter", came: frames(129, "\xe2\x82"), bad: 122, out: text7},
		{name: "a text's first frame that is none", came: frames(1, "\xed\xa0"), bad: 122, out: text7},
		{name: "a text that is none by its second frame", came: frames(1, "\xf4", 0, "\x90"), bad: 122, out: text7},
		{name: "a text whose last letter isn't whole", came: frames(1, "ab\xf0\x9f", 128, "\x98"), bad: 122, out: text7},
		{name: "an end of one byte", came: frames(136, "\x03"), bad: 110, out: form},
		{name: "an end of code 1005", came: frames(136, "\x03\xed"), bad: 110, out: form},
		{name: "an end of code 0", came: frames(136, "\x00\x00"), bad: 110, out: form},
		{name: "an end of code 5000", came: frames(136, "\x13\x88"+words), bad: 110, out: form},
		{name: "an end with words that are none", came: frames(136, "\x03\xe8\xff"), bad: 111, out: text7},
		{name: "an end with words that end within a letter", came: frames(136, "\x03\xe8a\xc3"), bad: 111, out: text7},
		{name: "two wrong frames", came: frames(129, "\xff", 128, "a"), bad: 122, out: text7},
		{name: "a wrong frame, and no frame behind", came: func(m bool) string { return all(m, 129, "\xff", 129, "a") + "\xff" }, bad: 122, out: text7},
		{name: "a wrong frame, and one too long behind", came: func(m bool) string { return all(m, 128, "a") + "\x82" + second(m, 126) + "\xff\xff" }, bad: 120, out: form},
		{name: "a wrong frame, and good ones behind", came: frames(128, "", 129, "a", 137, "p", 136, ""), bad: 120, out: form},
		{name: "a wrong frame, and a part of one behind", came: func(m bool) string { return all(m, 128, "") + "\x89" + second(m, 7) }, bad: 120, out: form, kept: 2},
		{name: "no frame, and good ones behind", came: func(m bool) string { return "\xff" + all(m, 129, "a", 136, "") }, bad: 91, out: form},
	}
}

// ahead is a feeding with good frames ahead of it, in the same piece: a message, a pong and a ping.
func (f feeding) ahead() feeding {
	came := f.came
	f.name += ", with good frames ahead"
	f.came = func(m bool) string { return all(m, 129, "good", 138, "o", 137, "i") + came(m) }
	f.told = append([]api.Event{text("good"), pong("o")}, f.told...)
	f.out = "\x8a\x01i" + f.out
	return f
}

// allFeedings is all of them, and those that have an end, or something wrong, with good frames ahead.
func allFeedings() []feeding {
	out := goodFeedings()
	for _, f := range append(endFeedings(), wrongFeedings()...) {
		out = append(out, f, f.ahead())
	}
	return out
}

// endBefore is what goes out where an end was sent before.
const endBefore = "\x88\x05\x03\xf0bye"

// feedPieces feeds pieces to a side, and holds what it comes to against what is wanted; an end was sent before, or not.
func (f feeding) feedPieces(t *testing.T, m, before bool, pieces []string) {
	t.Helper()
	what := fmt.Sprintf("%s, masked %v, an end before %v, %d pieces of %q", f.name, m, before, len(pieces), short(pieces[0]))
	l, s := both(t, config(20, 2, 1000), m, 77)
	out := f.out
	if before {
		out = endBefore
		holdAct(t, what, l, s, act{kind: "close", code: 1008, data: "bye"})
	}
	var told []api.Event
	for _, p := range pieces {
		told = append(told, holdAct(t, what, l, s, act{kind: "feed", data: p}).told...)
	}
	sameEvents(t, what, told, f.told)
	over := f.got || f.bad != 0
	if l.Got() != f.got || l.Wrong() != f.bad || l.Sent() != (before || over) || l.Free() != (!before && !over) {
		t.Fatalf("%s: got %v, wrong %d, sent %v, free %v", what, l.Got(), l.Wrong(), l.Sent(), l.Free())
	}
	if len(pieces) == 1 && l.Kept() != f.kept {
		t.Fatalf("%s: %d kept, want %d", what, l.Kept(), f.kept)
	}
	if is := went(t, l, m, 77); is != out {
		t.Fatalf("%s: %q went out, want %q", what, short(is), short(out))
	}
	if over {
		kept := l.Kept()
		for _, more := range []string{"\x00", "\xff", all(m, 129, "a"), all(m, 137, "p"), all(m, 136, ""), "\x81"} {
			if x := l.Feed([]byte(more)); len(x) > 0 || !l.Quiet() || l.Wrong() != f.bad || l.Got() != f.got || l.Kept() != kept {
				t.Fatalf("%s, and %q behind: told %+v, wrong %d", what, more, x, l.Wrong())
			}
		}
	}
}

// cutByBits cuts bytes behind each place whose bit is set.
func cutByBits(b string, bits int) []string {
	var out []string
	from := 0
	for i := 1; i < len(b); i++ {
		if bits>>(i-1)&1 == 1 {
			out = append(out, b[from:i])
			from = i
		}
	}
	return append(out, b[from:])
}

// ways are ways to cut bytes: in one piece, byte by byte, anywhere in two, some drawn ones, and, if there are few bytes, all.
func ways(b string, draw drawer) [][]string {
	if len(b) == 0 {
		return [][]string{{""}, {"", ""}}
	}
	var each []string
	for i := range len(b) {
		each = append(each, b[i:i+1])
	}
	out := [][]string{{b}, each}
	if len(b) <= 9 {
		for bits := range 1 << (len(b) - 1) {
			out = append(out, cutByBits(b, bits))
		}
		return out
	}
	for i := 1; i < len(b); i++ {
		out = append(out, []string{b[:i], b[i:]})
	}
	for range 30 {
		var l []string
		for rest := b; rest != ""; {
			n := min(len(rest), draw(6))
			l, rest = append(l, rest[:n]), rest[n:]
		}
		out = append(out, l)
	}
	return out
}

// P16.1: Feed of all frames, masked and not, in one piece, byte by byte, and cut anywhere, with an end sent before and without.
func TestFeed(t *testing.T) {
	draw := seeded(5)
	for _, f := range allFeedings() {
		for _, m := range []bool{false, true} {
			for _, before := range []bool{false, true} {
				for _, pieces := range ways(f.came(m), draw) {
					f.feedPieces(t, m, before, pieces)
				}
			}
		}
	}
}

// P16.1: of each two things that come one behind the other what they come to is what the two come to alone, up to an end, or what is wrong.
func TestFeedTwo(t *testing.T) {
	for _, f := range allFeedings() {
		for _, g := range allFeedings() {
			for _, m := range []bool{false, true} {
				l, s := both(t, config(20, 2, 3), m, 3)
				what := f.name + ", and " + g.name
				holdAct(t, what, l, s, act{kind: "feed", data: f.came(m) + g.came(m)})
				for !s.Quiet() {
					holdAct(t, what, l, s, act{kind: "take", n: 2})
				}
			}
		}
	}
}

// P16.1: each two first bytes of a frame, and each first byte alone.
func TestFeedFirstBytes(t *testing.T) {
	for _, m := range []bool{false, true} {
		for a := range 256 {
			l, s := both(t, config(20, 2, 100), m, 3)
			holdAct(t, fmt.Sprint("byte ", a), l, s, act{kind: "feed", data: string([]byte{byte(a)})})
			for b := range 256 {
				l, s := both(t, config(20, 2, 100), m, 3)
				what := fmt.Sprint("bytes ", a, " ", b)
				holdAct(t, what, l, s, act{kind: "feed", data: string([]byte{byte(a), byte(b)})})
				holdAct(t, what, l, s, act{kind: "feed", data: strings.Repeat("\x00", 20)})
			}
		}
	}
}

// P16.1: an end with each code: it is told, and sent back, if it may be; else it is wrong.
func TestFeedEachCode(t *testing.T) {
	for _, m := range []bool{false, true} {
		for code := range 1 << 16 {
			l := made(t, config(20, 2, 100), m, 3)
			data := string([]byte{byte(code >> 8), byte(code)})
			told := l.Feed([]byte(in(m, 136, data+"\u00e9")))
			if mayBeSent(code) {
				sameEvents(t, fmt.Sprint("code ", code), told, []api.Event{end(code, "é")})
				if is := went(t, l, m, 3); is != "\x88\x02"+data || !l.Got() || l.Wrong() != 0 {
					t.Fatalf("code %d: %q went out, wrong %d", code, is, l.Wrong())
				}
			} else if is := went(t, l, m, 3); is != "\x88\x02\x03\xea" || len(told) > 0 || l.Got() || l.Wrong() != 110 {
				t.Fatalf("code %d: %q went out, wrong %d", code, is, l.Wrong())
			}
		}
	}
}

// P16.1: how long frames and messages may be: a frame as long as a message, or 125 bytes, if that is more; a message as long as c says.
func TestFeedBounds(t *testing.T) {
	for _, message := range []int{1, 2, 124, 125, 126, 127, 1000, 65534, 65535, 65536} {
		for _, m := range []bool{false, true} {
			c := config(message, 1, 100)
			bound := max(125, message)
			for _, size := range []int{0, 1, message - 1, message, message + 1, bound, bound + 1, 65536, 65537, 1 << 20} {
				what := fmt.Sprintf("Message %d, masked %v, a frame of %d bytes", message, m, size)
				whole := in(m, 130, strings.Repeat("x", size))
				at := len(whole) - size
				if m {
					at -= 4
				}
				l := made(t, c, m, 1)
				if told := l.Feed([]byte(whole[:at-1])); len(told) > 0 || l.Wrong() != 0 || l.Kept() != at-1 {
					t.Fatalf("%s: all but the last byte of the length: wrong %d, %d kept", what, l.Wrong(), l.Kept())
				}
				// The length alone tells that it is too long.
				l.Feed([]byte(whole[at-1 : at]))
				if is := l.Wrong() == 92; is != (size > bound) {
					t.Fatalf("%s: its length alone: wrong %d", what, l.Wrong())
				}
				l = made(t, c, m, 1)
				told := l.Feed([]byte(whole))
				if size <= message {
					sameEvents(t, what, told, []api.Event{{Op: 2, Data: strings.Repeat("x", size)}})
					continue
				}
				wrong := api.Errno(121)
				if size > bound {
					wrong = 92
				}
				if len(told) > 0 || l.Wrong() != wrong || went(t, l, m, 1) != "\x88\x02\x03\xf1" {
					t.Fatalf("%s: wrong %d, want %d", what, l.Wrong(), wrong)
				}
			}
		}
	}
}

// P16.1: a message in two frames is as long as one may be, and one byte longer.
func TestFeedBoundsInTwoFrames(t *testing.T) {
	for _, message := range []int{1, 2, 125, 126, 65536} {
		for _, m := range []bool{false, true} {
			for _, first := range []int{0, 1, message / 2, message - 1, message} {
				l := made(t, config(message, 1, 100), m, 1)
				what := fmt.Sprintf("Message %d, %d bytes in the first frame", message, first)
				if x := l.Feed([]byte(in(m, 1, strings.Repeat("x", first)))); len(x) > 0 || l.Kept() != first {
					t.Fatalf("%s: %d kept", what, l.Kept())
				}
				told := l.Feed([]byte(in(m, 128, strings.Repeat("x", message-first))))
				sameEvents(t, what, told, []api.Event{text(strings.Repeat("x", message))})
				l.Feed([]byte(in(m, 1, strings.Repeat("x", first))))
				wrong, second := api.Errno(121), message-first+1
				if second > max(125, message) {
					wrong = 92
				}
				if x := l.Feed([]byte(in(m, 0, strings.Repeat("x", second)))); len(x) > 0 || l.Wrong() != wrong || l.Kept() > 0 {
					t.Fatalf("%s: one more byte: wrong %d, %d kept", what, l.Wrong(), l.Kept())
				}
			}
		}
	}
}
