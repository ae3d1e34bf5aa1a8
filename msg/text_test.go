package msg_test

import (
	"strings"
	"testing"

	"pendentive/api"
)

// letters are texts that are right: the first and the last letters of each count of bytes, those next to the ones that are none, the one that stands for wrong bytes elsewhere, and some in a row.
var letters = []string{
	"", "\x00", "a", "\x7f", "\xc2\x80", "\xc3\xa4", "\xdf\xbf", "\xe0\xa0\x80", "\xe2\x82\xac", "\xed\x9f\xbf", "\xee\x80\x80", "\xef\xbb\xbf", "\xef\xbf\xbd", "\xef\xbf\xbf",
	"\xf0\x90\x80\x80", "\xf0\x9f\x98\x80", "\xf3\xbf\xbf\xbf", "\xf4\x8f\xbf\xbf", "Hello", "a\xc3\xa4\xe2\x82\xac\xf0\x9f\x98\x80z", "\xe2\x82\xac\xe2\x82\xac", "\xf4\x8f\xbf\xbf\x00\xc2\x80",
}

// wrongs are bytes that are no beginning of letters: the last one of each is the first wrong one.
var wrongs = []string{
	"\x80", "\xa4", "\xbf", "\xc0", "\xc1", "\xf5", "\xf8", "\xfe", "\xff", "\xc3a", "\xc3\xc3", "\xc3\x00", "\xdf\x7f", "\xdf\xc0", "\xe0\x80", "\xe0\x9f", "\xe1\x7f", "\xe2\x82a", "\xe2\x82\xe2", "\xe2a",
	"\xed\xa0", "\xed\xbf", "\xef\xbf\xc0", "\xf0\x80", "\xf0\x8f", "\xf0\x9fa", "\xf0\x9f\x98a", "\xf0\x9f\x98\xf0", "\xf4\x90", "\xf4\xbf", "\xf4\x8f\xff",
}

// halves are bytes that end within a letter, and what ends it.
var halves = []struct{ half, tail string }{
	{"\xc3", "\xa4"}, {"\xe2", "\x82\xac"}, {"\xe2\x82", "\xac"}, {"\xf0", "\x9f\x98\x80"}, {"\xf0\x9f", "\x98\x80"}, {"\xf0\x9f\x98", "\x80"}, {"\xed", "\x9f\xbf"}, {"\xf4", "\x8f\xbf\xbf"}, {"\xe0", "\xa0\x80"},
}

// P12.1: letters in one frame, cut at each place into two, and at each two places into three.
func TestLetters(t *testing.T) {
	for _, one := range letters {
		for _, data := range []string{one, "a" + one, one + "z", "\xe2\x82\xac" + one + "\xc3\xa4"} {
			k := newTalk(t, 32).take(text(true, data), message(1, data))
			for i := range len(data) + 1 {
				k.take(text(false, data[:i]), nothing(i)).take(more(true, data[i:]), message(1, data))
				for j := i; j <= len(data); j++ {
					k.take(text(false, data[:i]), nothing(i)).take(more(false, data[i:j]), nothing(j)).take(more(true, data[j:]), message(1, data))
				}
			}
			k.take(text(false, ""), nothing(0))
			for i := range len(data) {
				k.take(more(false, data[i:i+1]), nothing(i+1))
			}
			k.take(more(true, ""), message(1, data)).done()
		}
	}
}

// P12.1: bytes that are wrong at their first, at a later or at their last byte, in one frame, with Fin and without, alone and behind other messages, cut at each place: it is told with the frame that has the first wrong byte, and not before. As binary nothing is wrong.
func TestWrongBytes(t *testing.T) {
	for _, wrong := range wrongs {
		for _, ahead := range []string{"", "abc", "\xc3\xa4", "a\xf0\x9f\x98\x80"} {
			for _, behind := range []string{"", "z", "\xa4", "\xff"} {
				data, known := ahead+wrong+behind, len(ahead+wrong)
				for _, fin := range []bool{false, true} {
					newTalk(t, 32).take(text(fin, data), fault(122)).rest()
					newTalk(t, 32).take(text(true, "\xc3\xa4"), message(1, "\xc3\xa4")).take(binary(true, "\xc3"), message(2, "\xc3")).take(text(fin, data), fault(122)).rest()
				}
				for i := range len(data) {
					first := newTalk(t, 32)
					if i >= known {
						first.take(text(false, data[:i]), fault(122)).rest()
						continue
					}
					first.take(text(false, data[:i]), nothing(i)).take(more(false, data[i:]), fault(122)).rest()
					newTalk(t, 32).take(text(false, data[:i]), nothing(i)).take(more(false, ""), nothing(i)).take(ping(""), tells(api.Event{Op: 9}, i)).take(more(true, data[i:]), fault(122)).rest()
				}
				newTalk(t, 32).take(binary(true, data), message(2, data)).take(binary(false, data), nothing(len(data))).take(more(true, wrong), message(2, data+wrong)).done()
			}
		}
	}
}

// P12.1: bytes that end within a letter: wrong with Fin; without it nothing, until more comes, that ends the letter, is wrong, or is the last one too soon. As binary nothing is wrong.
func TestHalves(t *testing.T) {
	for _, x := range halves {
		for _, ahead := range []string{"", "a", "\xc3\xa4\xf0\x9f\x98\x80"} {
			half := ahead + x.half
			n := len(half)
			newTalk(t, 32).take(text(true, half), fault(122)).rest()
			begun := func() *talk { return newTalk(t, 32).take(text(false, half), nothing(n)) }
			begun().take(more(true, ""), fault(122)).rest()
			begun().take(more(false, ""), nothing(n)).take(more(true, ""), fault(122)).rest()
			begun().take(more(true, "a"), fault(122)).rest()
			begun().take(more(false, "a"), fault(122)).rest()
			begun().take(more(false, x.half), fault(122)).rest()
			begun().take(more(false, "\xff"), fault(122)).rest()
			begun().take(more(true, x.tail[1:]+"a"), fault(122)).rest()
			begun().take(more(true, x.tail), message(1, half+x.tail)).take(text(true, "a"), message(1, "a")).done()
			begun().take(more(false, x.tail), nothing(n+len(x.tail))).take(more(true, ""), message(1, half+x.tail)).done()
			begun().take(more(true, x.tail+half), fault(122)).rest()
			begun().take(more(false, x.tail+half), nothing(n+len(x.tail)+n)).take(more(true, x.tail), message(1, half+x.tail+half+x.tail)).done()
			for i := range len(x.tail) {
				begun().take(more(true, x.tail[:i]), fault(122)).rest()
				begun().take(more(false, x.tail[:i]), nothing(n+i)).take(more(true, x.tail[i:]), message(1, half+x.tail)).done()
			}
			k := newTalk(t, 32).take(binary(true, half), message(2, half)).take(binary(false, half), nothing(n)).take(more(true, ""), message(2, half))
			k.take(binary(false, half), nothing(n)).take(more(true, "a"), message(2, half+"a")).done()
		}
	}
}

// P12.1: a letter that is begun isn't ended by another message's bytes, nor by a control frame's, and it begins in none.
func TestEachTextAnew(t *testing.T) {
	for _, x := range halves {
		newTalk(t, 9).take(binary(true, x.half), message(2, x.half)).take(text(true, x.tail), fault(122)).rest()
		newTalk(t, 9).take(binary(false, x.half), nothing(len(x.half))).take(more(true, ""), message(2, x.half)).take(text(false, x.tail), fault(122)).rest()
		newTalk(t, 9).take(ping(x.half), tells(api.Event{Op: 9, Data: x.half}, 0)).take(text(true, x.tail), fault(122)).rest()
		newTalk(t, 9).take(text(true, "a"), message(1, "a")).take(text(false, x.tail), fault(122)).rest()
		k := newTalk(t, 9).take(binary(true, x.half), message(2, x.half)).take(text(true, x.half+x.tail), message(1, x.half+x.tail))
		k.take(text(false, x.half), nothing(len(x.half))).take(pong("\xff"), tells(api.Event{Op: 10, Data: "\xff"}, len(x.half))).take(ping(x.tail), tells(api.Event{Op: 9, Data: x.tail}, len(x.half)))
		k.take(more(true, x.tail), message(1, x.half+x.tail)).take(binary(false, x.tail), nothing(len(x.tail))).take(more(true, "\xff"), message(2, x.tail+"\xff")).done()
	}
}

// P12.1: all texts of two and three of the bytes that matter, in one frame, and cut at each place.
func TestAllShortTexts(t *testing.T) {
	some := "\x00a\x7f\x80\x8f\x90\x9f\xa0\xbf\xc0\xc1\xc2\xdf\xe0\xe1\xec\xed\xee\xef\xf0\xf1\xf3\xf4\xf5\xff"
	var all []string
	for _, a := range []byte(some) {
		for _, b := range []byte(some) {
			all = append(all, string([]byte{a, b}))
			for _, c := range []byte(some) {
				all = append(all, string([]byte{a, b, c}))
			}
		}
	}
	for _, data := range all {
		newTalk(t, 3).reckon(text(true, data))
		newTalk(t, 3).reckon(text(false, data), more(true, ""))
		newTalk(t, 3).reckon(text(false, data[:1]), more(false, data[1:]), more(true, ""))
		newTalk(t, 3).reckon(text(false, data[:2]), more(true, data[2:]))
	}
}

// P12.1: the first of two errors that hold is told: a frame that may not be, then the order, then the length, then the letters.
func TestWhichError(t *testing.T) {
	key := func(f api.Frame) api.Frame {
		f.Key = keys[1]
		return f
	}
	const most = 5
	long, wrong := fill(most+1, ""), fill(most+1, "\xff")
	within := func(op int) *talk { return newTalk(t, most).take(frameOf(op, false, "a"), nothing(1)) }
	for _, fin := range []bool{false, true} {
		for _, data := range []string{long, wrong, "\xff", "\xc3"} {
			for _, op := range []int{1, 2} {
				newTalk(t, most).take(key(frameOf(op, fin, data)), fault(120)).rest()
				within(op).take(key(more(fin, data)), fault(120)).rest()
				within(op).take(frameOf(op, fin, data), fault(120)).rest()
				within(op).take(frameOf(3-op, fin, data), fault(120)).rest()
			}
			newTalk(t, most).take(more(fin, data), fault(120)).rest()
		}
		newTalk(t, most).take(text(fin, wrong), fault(121)).rest()
		newTalk(t, most).take(text(fin, strings.Repeat("\xff", most+1)), fault(121)).rest()
		newTalk(t, most).take(text(fin, fill(most+1, "\xc3")), fault(121)).rest()
		within(1).take(more(fin, fill(most, "\xff")), fault(121)).rest()
		within(1).take(more(fin, "\xff"+long[2:]), fault(121)).rest()
		within(1).take(more(fin, fill(most, "\xc3")), fault(121)).rest()
		// At the bound itself the letters matter, and what was wrong ahead is told ahead.
		newTalk(t, most).take(text(fin, fill(most, "\xff")), fault(122)).rest()
		within(1).take(more(fin, fill(most-1, "\xff")), fault(122)).rest()
		newTalk(t, most).take(text(false, "\xff"), fault(122)).take(more(fin, long), fault(122)).rest()
	}
	for _, data := range []string{"a", "\x03\xed", "\x03\xe8\xff", "\x03\xed\xff"} {
		newTalk(t, most).take(key(closing(data)), fault(120)).rest()
		newTalk(t, most).take(frameOf(8, false, data), fault(120)).rest()
		within(1).take(key(closing(data)), fault(120)).rest()
	}
	newTalk(t, most).take(closing("\x03\xed\xff"), fault(110)).rest()
	within(2).take(closing("\x03\xed\xff"), fault(110)).rest()
	within(2).take(closing("\x03\xe8\xff"), fault(111)).rest()
}
