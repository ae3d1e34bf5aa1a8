package msg_test

import (
	"math"
	"testing"

	"pendentive/api"
)

// noOps are numbers that are no op: next to those that are, with the bits of Fin or of others in them, below 0, and such that lie whole turns beside an op.
var noOps = []int{
	-1, -2, -8, -9, -128, -256, 3, 4, 5, 6, 7, 11, 12, 13, 14, 15, 16, 17, 18, 24, 25, 26, 32, 33, 64, 65, 127, 128, 129, 130, 136, 137, 138,
	255, 256, 257, 258, 264, 265, 266, 1 << 16, 1<<16 + 1, 1 << 31, 1<<31 + 8, 1 << 32, 1<<32 + 1, 1<<32 + 2, 1<<32 + 8, 1<<32 + 9, 1<<32 + 10, -1<<32 + 1,
	math.MinInt, math.MinInt + 1, math.MinInt + 8, math.MaxInt, math.MaxInt - 1,
}

// datas are Data of all kinds: letters, none, ends, what is too long at each place, and what is too long for any frame.
var datas = []string{"", "a", "\xff", "\xc3", "\x03\xe8", "\x03\xe8bye", "\x03\xed", "\x03\xe8\xff", "a\xa4", fill(placeMost+1, ""), fill(placeMost+1, "\xff"), sample(125), fill(126, ""), fill(65537, "")}

// checkNot is that a frame mustn't come, at no place.
func checkNot(t *testing.T, f api.Frame) {
	t.Helper()
	for _, p := range places {
		p.talk(t).take(f, fault(120)).rest()
	}
}

// P12.1: no frame may be of a number that is no op.
func TestNoOps(t *testing.T) {
	for _, op := range noOps {
		for _, fin := range []bool{false, true} {
			for _, data := range []string{"", "a", "\xff", "\x03\xe8"} {
				checkNot(t, frameOf(op, fin, data))
			}
			checkNot(t, masked(frameOf(op, fin, "a"), keys[2]))
		}
	}
	for _, op := range []int{-1, 3, 7, 11, 15, 257} {
		for _, data := range datas {
			newTalk(t, placeMost).take(frameOf(op, true, data), fault(120)).rest()
			newTalk(t, placeMost).take(binary(false, "a"), nothing(1)).take(frameOf(op, false, data), fault(120)).rest()
		}
	}
	for op := -300; op < 300; op++ {
		switch op {
		case 0, 1, 2, 8, 9, 10:
		default:
			newTalk(t, 1).take(frameOf(op, true, ""), fault(120)).rest()
			newTalk(t, 1).take(text(false, ""), nothing(0)).take(frameOf(op, true, ""), fault(120)).rest()
		}
	}
}

// P12.1: no control frame may be without Fin, whatever its Data, those that chapter 11's Get refuses included.
func TestControlWithoutFin(t *testing.T) {
	for _, op := range []int{8, 9, 10} {
		for _, data := range datas {
			checkNot(t, frameOf(op, false, data))
			checkNot(t, masked(frameOf(op, false, data), keys[1]))
		}
	}
}

// P12.1: no control frame may have more than 125 bytes, be they an end's or not.
func TestLongControl(t *testing.T) {
	for _, op := range []int{8, 9, 10} {
		for _, n := range []int{126, 127, 128, 200, 255, 256, 1000, 65535, 65536, 65537} {
			for _, data := range []string{fill(n, ""), "\x03\xe8" + fill(n-2, ""), "\x03\xe8" + fill(n-2, "\xff"), "\x03\xed" + fill(n-2, ""), sample(n)} {
				newTalk(t, placeMost).take(frameOf(op, true, data), fault(120)).rest()
				newTalk(t, 1<<20).take(frameOf(op, true, data), fault(120)).rest()
				newTalk(t, placeMost).take(text(false, "\xc3"), nothing(1)).take(masked(frameOf(op, true, data), keys[2]), fault(120)).rest()
			}
		}
		checkNot(t, frameOf(op, true, fill(126, "")))
		checkNot(t, frameOf(op, true, "\x03\xe8"+fill(124, "\xff")))
		checkNot(t, frameOf(op, true, fill(65537, "")))
	}
}

// P12.1: no frame that isn't masked may have a key, of which one byte alone isn't 0, whatever else is wrong with it.
func TestKeyWithoutMask(t *testing.T) {
	for _, op := range []int{0, 1, 2, 8, 9, 10} {
		for _, fin := range []bool{true, false} {
			for _, data := range datas {
				f := frameOf(op, fin, data)
				f.Key = keys[2]
				newTalk(t, placeMost).take(f, fault(120)).rest()
				newTalk(t, placeMost).take(text(false, "a"), nothing(1)).take(f, fault(120)).rest()
			}
			for i := range 4 {
				for _, value := range []byte{1, 128, 255} {
					f := frameOf(op, fin, "")
					f.Key[i] = value
					checkNot(t, f)
				}
			}
		}
	}
}

// P12.1: a frame that is masked may have any key, and comes to the same as without: its Data are as they are.
func TestMasked(t *testing.T) {
	for _, key := range append(keys, [4]byte{1}, [4]byte{0, 1}, [4]byte{0, 0, 1}, [4]byte{0, 0, 0, 1}) {
		of := func(f api.Frame) api.Frame { return masked(f, key) }
		k := newTalk(t, 10).take(of(text(true, "Hello")), message(1, "Hello")).take(of(binary(true, "\xff\x00")), message(2, "\xff\x00"))
		k.take(of(text(false, "He")), nothing(2)).take(of(ping("?")), tells(api.Event{Op: 9, Data: "?"}, 2)).take(more(false, "ll"), nothing(4)).take(of(more(true, "o")), message(1, "Hello"))
		k.take(of(pong("!")), tells(api.Event{Op: 10, Data: "!"}, 0)).take(of(closing("\x03\xe8bye")), end(1000, "bye")).rest()
		newTalk(t, 10).take(of(text(true, "\xff")), fault(122)).rest()
		newTalk(t, 10).take(of(binary(true, sample(11))), fault(121)).rest()
		newTalk(t, 10).take(of(more(true, "")), fault(120)).rest()
		newTalk(t, 10).take(of(closing("a")), fault(110)).rest()
		newTalk(t, 10).take(of(closing("\x03\xe8\xff")), fault(111)).rest()
	}
}

// P12.1: frames that may be but for how long their Data are may come: only the message's bound matters.
func TestLongFrames(t *testing.T) {
	for _, n := range []int{65535, 65536, 65537, 65538, 70000, 1 << 17, 1<<20 - 1, 1 << 20} {
		data, letters := sample(n), fill(n, "\xc3\xa4")
		k := newTalk(t, 1<<20).take(binary(true, data), message(2, data)).take(text(true, letters), message(1, letters)).take(masked(binary(true, data), keys[2]), message(2, data))
		k.take(text(false, letters), nothing(n)).take(more(true, ""), message(1, letters)).take(binary(false, ""), nothing(0)).take(more(false, data), nothing(n)).take(more(true, ""), message(2, data)).done()
		newTalk(t, n).take(binary(false, ""), nothing(0)).take(more(true, data), message(2, data)).take(text(true, letters), message(1, letters)).done()
		newTalk(t, n-1).take(binary(true, data), fault(121)).rest()
		newTalk(t, n-1).take(text(false, letters), fault(121)).rest()
		newTalk(t, n-1).take(text(false, "a"), nothing(1)).take(more(false, letters), fault(121)).rest()
		newTalk(t, 1<<20).take(more(true, data), fault(120)).rest()
		newTalk(t, 1<<20).take(text(true, fill(n, "\xc3")), fault(122)).rest()
		newTalk(t, 1<<20).take(text(true, "\xff"+letters[1:]), fault(122)).rest()
	}
	data := sample(1 << 24)
	newTalk(t, 1<<20).take(binary(true, data), fault(121)).rest()
	newTalk(t, 1<<20).take(text(false, ""), nothing(0)).take(more(false, data), fault(121)).rest()
}

// P12.1: pings and pongs with as many bytes as there can be, of any kind, at each place: the event has them, and the message goes on.
func TestPingPong(t *testing.T) {
	for _, op := range []int{9, 10} {
		for _, p := range places {
			for n := range 126 {
				if n > 5 && n < 120 {
					continue
				}
				for _, data := range []string{sample(n), fill(n, "")} {
					k := p.talk(t).take(frameOf(op, true, data), tells(api.Event{Op: op, Data: data}, len(p.part)))
					p.goOn(k)
				}
			}
			for _, data := range []string{"\xff", "\xc3", "\x82", "\x00", "\x03\xe8", "\x03\xed", "a\xa4"} {
				k := p.talk(t).take(masked(frameOf(op, true, data), keys[2]), tells(api.Event{Op: op, Data: data}, len(p.part)))
				k.take(frameOf(op, true, ""), tells(api.Event{Op: op}, len(p.part)))
				p.goOn(k)
			}
		}
		for n := range 126 { // a bound is a message's, not theirs
			k := newTalk(t, 1).take(frameOf(op, true, sample(n)), tells(api.Event{Op: op, Data: sample(n)}, 0)).take(text(false, "a"), nothing(1))
			k.take(frameOf(op, true, sample(n)), tells(api.Event{Op: op, Data: sample(n)}, 1)).take(more(true, ""), message(1, "a")).done()
		}
		for a := range 256 {
			data := string([]byte{byte(a)})
			newTalk(t, 1).take(frameOf(op, true, data), tells(api.Event{Op: op, Data: data}, 0)).done()
		}
	}
}

// P12.1: closes that are right, at each place: the event with the code and the words, and an end came.
func TestClose(t *testing.T) {
	for _, p := range places {
		for _, x := range []struct {
			data, words string
			code        int
		}{
			{"", "", 1005}, {"\x03\xe8", "", 1000}, {"\x03\xe9", "", 1001}, {"\x03\xf3", "", 1011}, {"\x0b\xb8", "", 3000}, {"\x13\x87", "", 4999},
			{"\x03\xe8x", "x", 1000}, {"\x03\xefbye", "bye", 1007}, {"\x13\x87\xc3\xa4", "\xc3\xa4", 4999}, {"\x0b\xff\x00", "\x00", 3071},
			{"\x03\xe8" + fill(placeMost+1, ""), fill(placeMost+1, ""), 1000}, {"\x03\xe9" + fill(122, ""), fill(122, ""), 1001}, {"\x03\xf0" + fill(123, "\xe2\x82\xac"), fill(123, "\xe2\x82\xac"), 1008},
		} {
			p.talk(t).take(closing(x.data), end(x.code, x.words)).rest()
			p.talk(t).take(masked(closing(x.data), keys[2]), end(x.code, x.words)).rest()
		}
	}
	newTalk(t, 1).take(closing("\x03\xe8"+fill(123, "")), end(1000, fill(123, ""))).rest()
	newTalk(t, 1).take(text(false, "a"), nothing(1)).take(closing("\x03\xe8"+fill(123, "")), end(1000, fill(123, ""))).rest()
}

// P12.1: closes with data that are none, at each place: chapter 11's Get's error, and no end came.
func TestWrongClose(t *testing.T) {
	for _, p := range places {
		for _, data := range []string{"a", "\x00", "\x03", "\xff", "\x00\x00", "\x03\xe7", "\x03\xec", "\x03\xed", "\x03\xee", "\x03\xf4", "\x03\xf7", "\x0b\xb7", "\x13\x88", "\xff\xff", "\xe8\x03", "\x03\xedbye", "\x03\xed\xff", "\x03\xee" + fill(123, "\xff")} {
			p.talk(t).take(closing(data), fault(110)).rest()
		}
		for _, data := range []string{"\x03\xe8\xff", "\x03\xe8a\xc3", "\x0b\xb8\xed\xa0\x80", "\x13\x87\x80", "\x03\xe9" + fill(123, "\xe2\x82"), "\x03\xe8\xff" + fill(122, "")} {
			p.talk(t).take(closing(data), fault(111)).rest()
		}
	}
}

// P12.1: closes with each two bytes as a code, with words and without, and with each one byte.
func TestEveryCode(t *testing.T) {
	for v := range 1 << 16 {
		two := string([]byte{byte(v >> 8), byte(v)})
		k := newTalk(t, 1).reckon(closing(two))
		if k.m.Over() {
			k.rest()
			newTalk(t, 1).take(closing(two+"a"), end(v, "a"))
			newTalk(t, 1).take(closing(two+"\xff"), fault(111))
			newTalk(t, 1).take(text(false, "a"), nothing(1)).take(closing(two), end(v, ""))
			continue
		}
		newTalk(t, 1).take(closing(two+"a"), fault(110))
		newTalk(t, 1).take(closing(two+"\xff"), fault(110))
	}
	for v := range 256 {
		newTalk(t, 1).take(closing(string([]byte{byte(v)})), fault(110)).rest()
	}
}

// P12.1: closes with words of each size, letters all, or none at their end.
func TestEveryWords(t *testing.T) {
	for n := range 124 {
		newTalk(t, 1).take(closing("\x03\xe8"+fill(n, "")), end(1000, fill(n, "")))
		if n > 0 {
			newTalk(t, 1).take(closing("\x03\xe8"+fill(n, "\xc3")), fault(111))
			newTalk(t, 1).take(closing("\x03\xe8\xff"+fill(n-1, "")), fault(111))
		}
	}
}
