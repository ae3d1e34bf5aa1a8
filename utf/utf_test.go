package utf_test

import (
	"bytes"
	"fmt"
	"strings"
	"testing"
	"unicode/utf8"

	"pendentive/utf"
)

const highest = 1114111

// edge is bytes whose answers are written out: how many stand ahead of the first wrong one, whether none is wrong, whether they are letters, and of how many.
type edge struct {
	in     string
	ahead  int
	right  bool
	whole  bool
	number int
}

func whole(in string, number int) edge { return edge{in, len(in), true, true, number} }

func begun(in string) edge { return edge{in, len(in), true, false, 0} }

func wrong(in string, ahead int) edge { return edge{in, ahead, false, false, 0} }

// edges are those that the chapter names, by its words alone.
var edges = []edge{
	whole("", 0),
	// The chapter's examples.
	whole("\xc3\xa4", 1), wrong("\xc0", 0), wrong("\xed\xa0", 1),
	// 0, 127 and 128; 2047 and 2048.
	whole("\x00", 1), whole("a", 1), whole("\x7f", 1), whole("\xc2\x80", 1), whole("\xdf\xbf", 1), whole("\xe0\xa0\x80", 1),
	// 55295, 55296, 57343 and 57344.
	whole("\xed\x9f\xbf", 1), wrong("\xed\xa0\x80", 1), wrong("\xed\xbf\xbf", 1), whole("\xee\x80\x80", 1),
	// Both halves of what others take for one letter above 65535.
	wrong("\xed\xa0\xbd\xed\xb8\x80", 1),
	// 65533, which stands for what is wrong elsewhere, 65535 and 65536; 1114111 and 1114112.
	whole("\xef\xbf\xbd", 1), whole("\xef\xbf\xbf", 1), whole("\xf0\x90\x80\x80", 1), whole("\xf4\x8f\xbf\xbf", 1), wrong("\xf4\x90\x80\x80", 1),
	// Letters in more bytes than they need: 0, 127, 2047 and 65535.
	wrong("\xc0\x80", 0), wrong("\xc1\xbf", 0), wrong("\xe0\x80\x80", 1), wrong("\xe0\x81\xbf", 1), wrong("\xe0\x9f\xbf", 1),
	wrong("\xf0\x80\x80\x80", 1), wrong("\xf0\x80\x81\xbf", 1), wrong("\xf0\x82\x80\x80", 1), wrong("\xf0\x8f\xbf\xbf", 1),
	wrong("\xf8\x88\x80\x80\x80", 0), wrong("\xf8\x80\x80\x80\x80", 0), wrong("\xfc\x84\x80\x80\x80\x80", 0),
	// First bytes that no letter has.
	wrong("\xf5\x80\x80\x80", 0), wrong("\xf7\xbf\xbf\xbf", 0), wrong("\xfb", 0), wrong("\xfe", 0), wrong("\xff", 0), wrong("a\xff", 1),
	// From 128 to 191 with no letter begun.
	wrong("\x80", 0), wrong("\xbf", 0), wrong("a\x80", 1), wrong("\xc3\xa4\xa4", 2), wrong("\xe2\x82\xac\xac", 3), wrong("\xf0\x90\x80\x80\x80", 4),
	// Begun and not ended.
	begun("\xc2"), begun("\xdf"), begun("\xe0"), begun("\xe0\xa0"), begun("\xed\x9f"), begun("\xef\xbf"),
	begun("\xf0"), begun("\xf0\x90"), begun("\xf0\x90\x80"), begun("\xf4"), begun("\xf4\x8f"), begun("\xf4\x8f\xbf"), begun("abc\xe2\x82"),
	// Broken off by a letter, or by another beginning.
	wrong("\xc2a", 1), wrong("\xc2\xc2\x80", 1), wrong("\xe2\x82a", 2), wrong("\xe2a\xac", 1), wrong("\xe2\x82\xe2\x82\xac", 2),
	wrong("\xf0\x90\x80a", 3), wrong("\xf0\x90\x80\x7f", 3), wrong("\xf0\x90\x80\xc0", 3), wrong("\xf0\x90a", 2), wrong("\xe2\x7f", 1), wrong("\xe2\xc0", 1),
	// Some letters.
	whole("\xc3\xa4b\xe2\x82\xac", 3), whole("a\xc2\x80\xe0\xa0\x80\xf0\x90\x80\x80z", 5), whole("\xf4\x8f\xbf\xbf\xf4\x8f\xbf\xbf", 2),
	wrong("\xc3\xa4b\xe2\x82\xac\xed\xa0\x80", 7),
}

// right is whether bytes are a beginning of letters, by another program.
func right(b []byte) bool {
	for len(b) > 0 {
		letter, n := utf8.DecodeRune(b)
		if letter == utf8.RuneError && n == 1 {
			return !utf8.FullRune(b)
		}
		b = b[n:]
	}
	return true
}

// answers is what another program tells of bytes.
func answers(b []byte) edge {
	e := edge{in: string(b), right: right(b), whole: utf8.Valid(b)}
	for e.ahead < len(b) && right(b[:e.ahead+1]) {
		e.ahead++
	}
	if e.whole {
		e.number = utf8.RuneCount(b)
	}
	return e
}

// inBytes is a number as so many bytes by the chapter's rule, whether or not it is a letter's, and whether or not it needs so many.
func inBytes(number, size int) string {
	if size == 1 {
		return string([]byte{byte(number)})
	}
	out := make([]byte, size)
	for i := size - 1; i > 0; i-- {
		out[i] = 128 + byte(number%64)
		number /= 64
	}
	out[0] = []byte{0, 0, 192, 224, 240}[size] + byte(number)
	return string(out)
}

// needs is how many bytes a number needs.
func needs(number int) int {
	switch {
	case number < 128:
		return 1
	case number < 2048:
		return 2
	case number < 65536:
		return 3
	}
	return 4
}

// feedAll feeds pieces, and adds up what Feed answers.
func feedAll(c *utf.Checker, pieces ...string) int {
	ahead := 0
	for _, p := range pieces {
		ahead += c.Feed([]byte(p))
	}
	return ahead
}

// checkState holds a checker against what it ought to tell.
func checkState(t *testing.T, c *utf.Checker, e edge, how string) {
	t.Helper()
	if c.Right() != e.right || c.Whole() != e.whole {
		t.Fatalf("%.40q, %s: right %t and whole %t, want %t and %t", e.in, how, c.Right(), c.Whole(), e.right, e.whole)
	}
}

// checkPieces feeds bytes in pieces to a checker to which nothing came.
func checkPieces(t *testing.T, c *utf.Checker, e edge, how string, pieces ...string) {
	t.Helper()
	if got := feedAll(c, pieces...); got != e.ahead {
		t.Fatalf("%.40q, %s: %d right ones, want %d", e.in, how, got, e.ahead)
	}
	checkState(t, c, e, how)
}

// check holds every call against the answers.
func check(t *testing.T, e edge) {
	t.Helper()
	checkPieces(t, utf.New(), e, "in one", e.in)
	if got := utf.Valid([]byte(e.in)); got != e.whole {
		t.Fatalf("Valid of %.40q: %t", e.in, got)
	}
	if got, ok := utf.Count([]byte(e.in)); got != e.number || ok != e.whole {
		t.Fatalf("Count of %.40q: %d, %t, want %d, %t", e.in, got, ok, e.number, e.whole)
	}
}

// checkCuts asks the same of bytes that are cut in two at each place, and byte by byte, with and without pieces of none.
func checkCuts(t *testing.T, e edge) {
	t.Helper()
	for at := range len(e.in) + 1 {
		checkPieces(t, utf.New(), e, "in two", e.in[:at], e.in[at:])
		checkPieces(t, utf.New(), e, "in two, with none between", "", e.in[:at], "", "", e.in[at:], "")
	}
	var bare []string
	spaced := []string{""}
	for i := range len(e.in) {
		bare = append(bare, e.in[i:i+1])
		spaced = append(spaced, e.in[i:i+1], "")
	}
	checkPieces(t, utf.New(), e, "byte by byte", bare...)
	checkPieces(t, utf.New(), e, "byte by byte, with none between", spaced...)
}

// P3.1: the document's examples, and the edges that the chapter names.
func TestEdges(t *testing.T) {
	for _, e := range edges {
		check(t, e)
	}
}

// The answers of the other program are those that are written out: so they may be leaned on below.
func TestOtherProgram(t *testing.T) {
	for _, e := range edges {
		if got := answers([]byte(e.in)); got != e {
			t.Fatalf("%+v, want %+v", got, e)
		}
	}
}

// P3.1: no bytes are right, whole, and no letters; nil and empty are one.
func TestNothing(t *testing.T) {
	c := utf.New()
	for _, b := range [][]byte{nil, {}, make([]byte, 0, 9)} {
		if n, ok := utf.Count(b); n != 0 || !ok || !utf.Valid(b) {
			t.Fatalf("of no bytes: %d, %t, %t", n, ok, utf.Valid(b))
		}
		checkState(t, c, whole("", 0), "no bytes")
		if n := c.Feed(b); n != 0 {
			t.Fatalf("Feed of no bytes: %d", n)
		}
		checkState(t, c, whole("", 0), "no bytes fed")
	}
	c.Feed([]byte("\xe2\x82"))
	c.Feed(nil)
	checkState(t, c, begun("\xe2\x82"), "none fed within a letter")
	if c.Feed([]byte{0xac}) != 1 {
		t.Fatal("none fed within a letter: it isn't ended by its last byte")
	}
	checkState(t, c, whole("\xe2\x82\xac", 1), "none fed within a letter")
}

// P3.1: every number, as many bytes as it needs: a letter, or from 55296 to 57343 none, by its second byte.
func TestEveryNumber(t *testing.T) {
	c := utf.New()
	for number := range highest + 1 {
		in := inBytes(number, needs(number))
		e := whole(in, 1)
		if number >= 55296 && number <= 57343 {
			e = wrong(in, 1)
		}
		checkPieces(t, c, e, "in one", in)
		c.Reset()
		if n, ok := utf.Count([]byte(in)); n != e.number || ok != e.whole || utf.Valid([]byte(in)) != e.whole {
			t.Fatalf("%d, %q: %d letters, %t", number, in, n, ok)
		}
	}
}

// P3.1: every beginning of every letter is right, and not whole.
func TestEveryBeginning(t *testing.T) {
	c := utf.New()
	for number := 128; number <= highest; number++ {
		if number >= 55296 && number <= 57343 {
			continue
		}
		in := inBytes(number, needs(number))
		for n := 1; n < len(in); n++ {
			checkPieces(t, c, begun(in[:n]), "a beginning", in[:n])
			c.Reset()
		}
	}
}

// P3.1: numbers in more bytes than they need: the first byte is wrong, if there are two, else the second one.
func TestTooManyBytes(t *testing.T) {
	c := utf.New()
	for number := range 65536 {
		for size := needs(number) + 1; size <= 4; size++ {
			in := inBytes(number, size)
			checkPieces(t, c, wrong(in, min(size-2, 1)), "too many bytes", in)
			c.Reset()
			if utf.Valid([]byte(in)) {
				t.Fatalf("%d in %d bytes, %q: valid", number, size, in)
			}
		}
	}
}

// P3.1: numbers above the highest, as far as four bytes hold them.
func TestTooHigh(t *testing.T) {
	c := utf.New()
	for number := highest + 1; number < 1<<21; number++ {
		in := inBytes(number, 4)
		e := wrong(in, 0)
		if in[0] == 0xf4 {
			e.ahead = 1
		}
		checkPieces(t, c, e, "too high", in)
		c.Reset()
	}
}

// P3.1: each byte alone and behind whole letters: a letter, a beginning, or wrong.
func TestEveryByte(t *testing.T) {
	for _, ahead := range []string{"", "a", "\xc3\xa4", "\xe2\x82\xac", "\xf0\x90\x80\x80"} {
		letters := min(len(ahead), 1)
		for v := range 256 {
			in := ahead + string([]byte{byte(v)})
			switch {
			case v < 128:
				check(t, whole(in, letters+1))
			case v >= 0xc2 && v <= 0xf4:
				check(t, begun(in))
			default:
				check(t, wrong(in, len(ahead)))
			}
		}
	}
}

// P3.1: each byte behind each beginning of one byte or of two, and at the ends of the bounds behind those of three.
func TestEveryFew(t *testing.T) {
	few := []byte{0, 0x7f, 0x80, 0x8f, 0x90, 0x9f, 0xa0, 0xbf, 0xc0, 0xc1, 0xc2, 0xdf, 0xe0, 0xed, 0xf0, 0xf4, 0xff}
	for a := range 256 {
		for b := range 256 {
			check(t, answers([]byte{byte(a), byte(b)}))
			for _, v := range few {
				check(t, answers([]byte{byte(a), byte(b), v}))
				if a >= 0xe0 && b >= 0x70 && b <= 0xc8 {
					for _, w := range few {
						check(t, answers([]byte{byte(a), byte(b), v, w}))
					}
				}
			}
		}
	}
}

// P3.1: one wrong byte at each place of a text, so that how many stand ahead of it is told at each.
func TestWhichIsWrong(t *testing.T) {
	text := "a\xc3\xa4\xe2\x82\xac\xf0\x9f\x98\x80z\xed\x9f\xbf\xee\x80\x80\xf4\x8f\xbf\xbf!"
	for at := range len(text) {
		for _, v := range []byte{0, 0x7f, 0x80, 0xbf, 0xc0, 0xc1, 0xe0, 0xf5, 0xff} {
			changed := []byte(text)
			changed[at] = v
			check(t, answers(changed))
			check(t, answers([]byte(text[:at]+string([]byte{v})+text[at:])))
		}
		check(t, answers([]byte(text[:at])))
		check(t, answers([]byte(text[at:])))
	}
}

// P3.1: behind a wrong byte nothing is right any more, whatever comes.
func TestBehindWrong(t *testing.T) {
	for _, e := range edges {
		if e.right {
			continue
		}
		c := utf.New()
		c.Feed([]byte(e.in))
		for _, more := range []string{"", "a", "\x80", "\xac", "\x80\x80\x80", "\xc3\xa4", "\xff", "", "some more letters"} {
			if n := c.Feed([]byte(more)); n != 0 {
				t.Fatalf("%q behind %q: %d", more, e.in, n)
			}
			checkState(t, c, e, "behind a wrong byte")
		}
	}
}

// P3.1: Reset behind a wrong byte, within a letter, and at a letter's end is as New.
func TestReset(t *testing.T) {
	for _, e := range edges {
		for _, next := range edges {
			c := utf.New()
			c.Feed([]byte(e.in))
			c.Reset()
			checkState(t, c, whole("", 0), "reset")
			checkPieces(t, c, next, "reset behind others", next.in)
		}
	}
	c := utf.New()
	c.Reset()
	c.Reset()
	checkPieces(t, c, begun("\xe2\x82"), "reset at the beginning", "\xe2\x82")
}

// P3.1: Right and Whole change nothing, and are right at each place.
func TestAskedBetween(t *testing.T) {
	for _, e := range edges {
		c := utf.New()
		for i := range len(e.in) {
			now := answers([]byte(e.in[:i]))
			checkState(t, c, now, "on the way")
			checkState(t, c, now, "on the way, again")
			c.Feed([]byte(e.in[i : i+1]))
		}
		checkState(t, c, e, "at the end")
	}
}

// P3.2: it doesn't matter how bytes are cut.
func TestCuts(t *testing.T) {
	for _, e := range edges {
		checkCuts(t, e)
		for _, next := range edges {
			checkCuts(t, answers([]byte(e.in+next.in)))
		}
	}
}

// P3.2: all ways of cutting, into any number of pieces.
func TestAllCuts(t *testing.T) {
	for _, in := range []string{"a\xc3\xa4\xe2\x82\xac", "\xf0\x9f\x98\x80\xed\x9f\xbf", "\xf4\x8f\xbf\xbf\xf4\x90", "\xe2\x82\xac\xed\xa0\x80\x80", "z\xf0\x90\x80", "\xc2\x80\xe0\x9f\xbfa"} {
		e := answers([]byte(in))
		for cuts := range 1 << (len(in) - 1) {
			var pieces []string
			from := 0
			for i := 1; i <= len(in); i++ {
				if i == len(in) || cuts>>(i-1)&1 == 1 {
					pieces = append(pieces, in[from:i])
					from = i
				}
			}
			checkPieces(t, utf.New(), e, fmt.Sprintf("as %q", pieces), pieces...)
		}
	}
}

// P3.1 and P3.2: many letters, in pieces whose ends fall at every place of a letter.
func TestManyLetters(t *testing.T) {
	in := strings.Repeat("a\xc3\xa4\xe2\x82\xac\xf0\x9f\x98\x80", 10000)
	for _, e := range []edge{whole(in, 40000), begun(in + "\xf0\x9f\x98"), wrong(in+"\xc0", len(in)), wrong("\xc0"+in, 0), wrong(in[:50003]+"\xff"+in, 50003)} {
		check(t, e)
		for _, size := range []int{1, 3, 7, 64, 1001, 65536} {
			var pieces []string
			for left := e.in; len(left) > 0; {
				n := min(size, len(left))
				pieces = append(pieces, left[:n])
				left = left[n:]
			}
			checkPieces(t, utf.New(), e, "in pieces", pieces...)
		}
	}
}

// P3.1: two checkers side by side don't touch each other.
func TestSideBySide(t *testing.T) {
	for _, e := range edges {
		for _, o := range edges {
			one, other := utf.New(), utf.New()
			for i := range max(len(e.in), len(o.in)) {
				if i < len(e.in) {
					one.Feed([]byte(e.in[i : i+1]))
				}
				if i < len(o.in) {
					other.Feed([]byte(o.in[i : i+1]))
				}
			}
			checkState(t, one, e, "the one")
			checkState(t, other, o, "the other")
			one.Reset()
			checkState(t, other, o, "the other, and the one is reset")
			checkState(t, utf.New(), whole("", 0), "a third one")
		}
	}
}

// The rules: what is handed in is neither changed nor kept, and spare room has no weight.
func TestArgumentsStay(t *testing.T) {
	for _, e := range edges {
		room := append([]byte(e.in), "\xac\x80a\xff"...)
		before := bytes.Clone(room)
		c := utf.New()
		if n := c.Feed(room[:len(e.in)]); n != e.ahead {
			t.Fatalf("Feed of %q with spare room: %d, want %d", e.in, n, e.ahead)
		}
		if n, ok := utf.Count(room[:len(e.in)]); n != e.number || ok != e.whole || utf.Valid(room[:len(e.in)]) != e.whole {
			t.Fatalf("Count of %q with spare room: %d, %t", e.in, n, ok)
		}
		if !bytes.Equal(room, before) {
			t.Fatalf("%q: what was handed in is changed", e.in)
		}
		for i := range room {
			room[i] = 0xff
		}
		checkState(t, c, e, "changed afterwards")
		next := answers([]byte(e.in + "\xac"))
		c.Feed([]byte("\xac"))
		checkState(t, c, next, "changed afterwards, and one more")
	}
}

// P1, P3.1 and P3.2: every call answers and none panics, whatever bytes and cuts there are.
func FuzzCuts(f *testing.F) {
	for _, e := range edges {
		f.Add([]byte(e.in), uint16(len(e.in)/2), uint16(len(e.in)))
	}
	f.Fuzz(func(t *testing.T, b []byte, at, next uint16) {
		e := answers(b)
		check(t, e)
		from := min(int(at), len(b))
		to := min(from+int(next), len(b))
		c := utf.New()
		checkPieces(t, c, e, "in three", e.in[:from], e.in[from:to], e.in[to:])
		c.Reset()
		checkPieces(t, c, answers(b[from:to]), "reset", e.in[from:to])
	})
}
