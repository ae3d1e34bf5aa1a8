package msg_test

import (
	"slices"
	"strings"
	"testing"

	"pendentive/api"
)

// P12.1: more of a message that isn't begun is wrong, with Fin and without, whatever its Data; and so is a message's first frame where one is begun.
func TestOrder(t *testing.T) {
	for _, p := range places {
		for _, data := range datas {
			for _, fin := range []bool{false, true} {
				if p.op == 0 {
					p.talk(t).take(more(fin, data), fault(120)).rest()
					p.talk(t).take(masked(more(fin, data), keys[2]), fault(120)).rest()
					continue
				}
				for _, op := range []int{1, 2} {
					p.talk(t).take(frameOf(op, fin, data), fault(120)).rest()
					p.talk(t).take(masked(frameOf(op, fin, data), keys[1]), fault(120)).rest()
				}
			}
		}
	}
}

// P12.1: a message that was ended isn't begun any more, be it ended by its first frame or by another one.
func TestOrderBehindEnd(t *testing.T) {
	for _, op := range []int{1, 2} {
		for _, data := range []string{"", "a"} {
			newTalk(t, 9).take(frameOf(op, true, data), message(op, data)).take(more(true, data), fault(120)).rest()
			newTalk(t, 9).take(frameOf(op, false, data), nothing(len(data))).take(more(true, ""), message(op, data)).take(more(false, ""), fault(120)).rest()
			newTalk(t, 9).take(frameOf(op, false, ""), nothing(0)).take(more(true, data), message(op, data)).take(more(true, ""), fault(120)).rest()
			newTalk(t, 9).take(frameOf(op, false, ""), nothing(0)).take(more(false, ""), nothing(0)).take(frameOf(op, true, data), fault(120)).rest()
			newTalk(t, 9).take(frameOf(op, false, ""), nothing(0)).take(frameOf(3-op, true, data), fault(120)).rest()
		}
	}
}

// P12.1: messages in one frame, of each byte, of each two, and of many sizes.
func TestOneFrame(t *testing.T) {
	k := newTalk(t, 300)
	for a := range 256 {
		k.take(binary(true, string([]byte{byte(a)})), message(2, string([]byte{byte(a)})))
		for b := range 256 {
			data := string([]byte{byte(a), byte(b)})
			k.check(binary(true, data), message(2, data))
		}
		if a < 128 {
			k.take(text(true, string([]byte{byte(a)})), message(1, string([]byte{byte(a)})))
		}
	}
	for n := range 301 {
		k.take(binary(true, sample(n)), message(2, sample(n))).take(text(true, fill(n, "")), message(1, fill(n, "")))
	}
	k.done()
}

// P12.1: messages in two frames, of all sizes to some bound, in a row.
func TestTwoFrames(t *testing.T) {
	k := newTalk(t, 60)
	for a := range 31 {
		for b := range 30 {
			first, second := sample(a), sample(a + b)[a:]
			k.take(binary(false, first), nothing(a)).take(more(true, second), message(2, first+second))
			k.take(text(false, fill(a, "")), nothing(a)).take(more(true, fill(b, "")), message(1, fill(a+b, "")))
		}
	}
	k.done()
}

// P12.1: messages in many frames, of which some are empty: the first, the last, those between, or all.
func TestManyFrames(t *testing.T) {
	for _, parts := range [][]string{
		{"", ""}, {"", "a"}, {"a", ""}, {"a", "b"}, {"", "", ""}, {"", "", "a"}, {"", "a", ""}, {"a", "", ""}, {"a", "", "b"}, {"", "a", "b"}, {"a", "b", ""}, {"a", "b", "c"},
		{"", "", "ab", "", "", "c", "d", ""}, {"a", "b", "c", "d", "e", "f", "g", "h", "i"}, {"abcdefgh", "", "i"}, {"", "", "", "", "", "", ""},
	} {
		k := newTalk(t, 9)
		for _, op := range []int{1, 2, 2, 1} {
			all := parts[0]
			k.take(frameOf(op, false, all), nothing(len(all)))
			for _, part := range parts[1 : len(parts)-1] {
				all += part
				k.take(more(false, part), nothing(len(all)))
			}
			all += parts[len(parts)-1]
			k.take(more(true, parts[len(parts)-1]), message(op, all))
		}
		k.done()
	}
}

// P12.1: a message's op is that of its first frame, and each message has its own bytes alone.
func TestRow(t *testing.T) {
	k := newTalk(t, 4)
	for range 3 {
		k.take(text(true, "abcd"), message(1, "abcd")).take(binary(true, "\xffefg"), message(2, "\xffefg")).take(text(false, "hi"), nothing(2)).take(more(true, "jk"), message(1, "hijk"))
		k.take(binary(false, "l"), nothing(1)).take(more(false, "\x80"), nothing(2)).take(more(true, "no"), message(2, "l\x80no")).take(text(true, ""), message(1, "")).take(binary(true, ""), message(2, ""))
	}
	k.done()
}

// bounds are those for messages that the tests below fill.
var bounds = []int{1, 2, 3, 5, 9, 124, 125, 126, 127, 1000, 65535, 65536, 65537}

// P12.1: messages of just most bytes are told, in one frame and in several, and each has the whole bound for itself.
func TestMost(t *testing.T) {
	for _, most := range append(bounds, 1<<20) {
		data, letters := sample(most), fill(most, "")
		k := newTalk(t, most)
		for _, at := range slices.Compact([]int{0, 1, most / 2, most - 1, most}) {
			k.take(binary(false, data[:at]), nothing(at)).take(more(true, data[at:]), message(2, data))
			k.take(text(false, letters[:at]), nothing(at)).take(ping(""), tells(api.Event{Op: 9}, at)).take(more(false, letters[at:]), nothing(most)).take(more(false, ""), nothing(most)).take(more(true, ""), message(1, letters))
		}
		k.take(binary(true, data), message(2, data)).take(text(true, letters), message(1, letters)).done()
	}
}

// P12.1: messages of one byte more than most, and of many more, are too long in the frame that has the first of these: in the first, in a later, in the last one, with Fin and without, also where the bytes are no letters.
func TestTooLong(t *testing.T) {
	for _, most := range bounds {
		for _, over := range []int{1, 2, 3, 125, 126, most, 2 * most, 65536, 1 << 18} {
			for _, fin := range []bool{false, true} {
				for _, data := range []string{fill(most+over, ""), fill(most+over, "\xff"), "\xff" + fill(most+over-1, ""), strings.Repeat("\xc3", most+over)} {
					newTalk(t, most).take(text(fin, data), fault(121)).rest()
					newTalk(t, most).take(binary(fin, data), fault(121)).rest()
					newTalk(t, most).take(text(false, ""), nothing(0)).take(more(fin, data), fault(121)).rest()
				}
				data := sample(most + over)
				for _, at := range []int{1, most / 2, most - 1, most} {
					newTalk(t, most).take(binary(false, data[:at]), nothing(at)).take(more(fin, data[at:]), fault(121)).rest()
					newTalk(t, most).take(binary(false, ""), nothing(0)).take(more(false, data[:at]), nothing(at)).take(pong("p"), tells(api.Event{Op: 10, Data: "p"}, at)).take(more(fin, data[at:]), fault(121)).rest()
					newTalk(t, most).take(text(false, fill(at, "")), nothing(at)).take(more(false, ""), nothing(at)).take(more(fin, fill(most+over-at, "\xff")), fault(121)).rest()
				}
			}
		}
		newTalk(t, most).take(text(false, fill(most, "\xc3")), nothing(most)).take(more(true, "\xa4"), fault(121)).rest()
		newTalk(t, most).take(text(false, fill(most, "\xc3")), nothing(most)).take(more(true, "\xff"), fault(121)).rest()
		newTalk(t, most).take(binary(true, sample(most)), message(2, sample(most))).take(binary(true, sample(most+1)), fault(121)).rest()
	}
}

// P12.1: a message that grows byte by byte is too long with the first byte above most.
func TestGrows(t *testing.T) {
	for _, most := range []int{1, 2, 3, 9, 126, 300} {
		for _, fin := range []bool{false, true} {
			k := newTalk(t, most).take(binary(false, ""), nothing(0))
			for n := range most {
				k.take(more(false, "\xff"), nothing(n+1)).take(more(false, ""), nothing(n+1))
			}
			k.take(more(fin, "a"), fault(121)).rest()
		}
	}
}

// P1: a message of as many bytes as there can be, each in a frame of its own, and a great many messages, in good time.
func TestMany(t *testing.T) {
	const most = 1 << 20
	m := made(t, most)
	for _, op := range []int{1, 2} {
		for n := range most {
			f := more(n == most-1, "a")
			if n == 0 {
				f.Op = op
			}
			event, is, err := m.Take(f)
			if is != f.Fin || err != api.OK || !f.Fin && m.Part() != n+1 {
				t.Fatalf("byte %d: %t, error %d, Part %d", n, is, err, m.Part())
			}
			if is && (event != api.Event{Op: op, Data: strings.Repeat("a", most)} || m.Part() != 0) {
				t.Fatalf("event of op %d with %d bytes, Part %d", event.Op, len(event.Data), m.Part())
			}
		}
	}
	for range most {
		if event, is, err := m.Take(text(true, "Hi")); !is || err != api.OK || event != (api.Event{Op: 1, Data: "Hi"}) {
			t.Fatalf("%v, %t, error %d", event, is, err)
		}
	}
}

// P12.1: machines don't mind each other.
func TestSideBySide(t *testing.T) {
	var talks []*talk
	for most := range 6 {
		talks = append(talks, newTalk(t, most+1))
	}
	frames := []api.Frame{text(true, "a"), binary(false, ""), ping("p"), more(false, "\xff"), more(true, ""), text(false, "\xc3"), pong(""), more(true, "\xa4"), binary(true, "abc"), text(false, "ab"), more(true, "cde"), text(true, "abcdef"), closing("\x03\xe8bye"), text(true, "a")}
	for round := range len(frames) + len(talks) {
		for i, k := range talks {
			if at := round - i; at >= 0 && at < len(frames) {
				k.reckon(frames[at])
			}
		}
	}
	wrong := 0
	for _, k := range talks {
		k.done()
		if k.m.Err() == 121 {
			wrong++
		} else if !k.m.Over() {
			t.Errorf("%v: neither wrong nor over", k)
		}
	}
	if wrong != 5 {
		t.Errorf("%d machines met what is too long", wrong)
	}
}
