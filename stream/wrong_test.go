package stream_test

import (
	"bytes"
	"encoding/binary"
	"slices"
	"testing"

	"pendentive/api"
	"pendentive/frame"
)

// tooLong is a length as bytes, as a frame's head has them from its second byte on.
func tooLong(masked bool, n int) string {
	if n < 126 {
		return string([]byte{second(masked, n)})
	}
	if n < 65536 {
		return string(binary.BigEndian.AppendUint16([]byte{second(masked, 126)}, uint16(n)))
	}
	return string(binary.BigEndian.AppendUint64([]byte{second(masked, 127)}, uint64(n)))
}

// fault is bytes that are wrong, of which the first known tell it.
type fault struct {
	b     string
	known int
	err   api.Errno
}

// faults are bytes of all kinds that are wrong, where frames are masked or not, of at most so many bytes.
func faults(masked bool, most int) []fault {
	as, not := second(masked, 0), second(!masked, 0)
	var out []fault
	add := func(known int, err api.Errno, b ...byte) { out = append(out, fault{string(b), known, err}) }
	for _, first := range []byte{3, 7, 8, 9, 10, 11, 15, 16, 32, 64, 127, 131, 135, 139, 143, 145, 161, 193, 200, 255} {
		add(1, api.ErrFrameForm, first)
		add(1, api.ErrFrameForm, first, as)
		add(1, api.ErrFrameForm, first, not)
		add(1, api.ErrFrameForm, first, not+126, 0, 5)
	}
	for _, first := range openings {
		for _, length := range []byte{0, 1, 5, 125, 126, 127} {
			add(2, api.ErrStreamMask, first, not+length)
		}
		add(2, api.ErrStreamMask, first, not, 'a', 'b', 'c', 'd', first, as)
		add(2, api.ErrStreamMask, first, not+126, 0, 5)
		add(2, api.ErrStreamMask, first, not+126, 255, 255)
		add(2, api.ErrStreamMask, first, not+127, 128, 0)
		add(2, api.ErrStreamMask, first, not+127, 127, 255, 255, 255, 255, 255, 255, 255)
		add(2, api.ErrStreamMask, first, not+127, 0, 0, 0, 0, 0, 0, 0, 0)
		if first >= 136 {
			add(2, api.ErrFrameForm, first, as+126)
			add(2, api.ErrFrameForm, first, as+126, 0, 126)
			add(2, api.ErrFrameForm, first, as+127)
			add(2, api.ErrFrameForm, first, as+127, 0, 0, 0, 0, 0, 1, 0, 0)
			continue
		}
		add(4, api.ErrFrameForm, first, as+126, 0, 0)
		add(4, api.ErrFrameForm, first, as+126, 0, 125, 'a')
		add(3, api.ErrFrameForm, first, as+127, 128)
		add(3, api.ErrFrameForm, first, as+127, 255, 255, 255, 255, 255, 255, 255, 255)
		add(8, api.ErrFrameForm, first, as+127, 0, 0, 0, 0, 0, 0)
		add(8, api.ErrFrameForm, first, as+127, 0, 0, 0, 0, 0, 0, 255, 255)
		long := tooLong(masked, most+1)
		out = append(out, fault{string([]byte{first}) + long, 1 + len(long), api.ErrFrameLong})
		out = append(out, fault{string([]byte{first}) + long + "abcdef", 1 + len(long), api.ErrFrameLong})
		add(10, api.ErrFrameLong, first, as+127, 0, 0, 0, 0, 0, 1, 0, 1)
		add(10, api.ErrFrameLong, first, as+127, 0, 0, 0, 1, 0, 0, 0, 0)
		add(10, api.ErrFrameLong, first, as+127, 127, 255, 255, 255, 255, 255, 255, 255)
	}
	return out
}

// P10.1: every first byte that no frame begins with: ErrFrameForm of it alone, whatever stands behind, masked or not.
func TestFirstByte(t *testing.T) {
	for _, masked := range boths {
		for v := range 256 {
			if bytes.IndexByte(openings, byte(v)) >= 0 {
				f := dress(masked, v >= 128, v%128, "")
				right(t, masked, 125).part(t, f, 1).cut(t)
				right(t, masked, 125, f).everyCut(t)
				continue
			}
			for _, ahead := range [][]api.Frame{nil, short(masked)} {
				s := right(t, masked, 125, ahead...)
				s.wrong(string([]byte{byte(v)}), 1, api.ErrFrameForm).cut(t)
				for _, next := range []byte{0, 5, 126, 127, 128, 133, 254, 255} {
					w := s.wrong(string([]byte{byte(v), next, 0, 5}), 1, api.ErrFrameForm)
					w.cut(t)
					w.cut(t, len(s.b))
					w.cut(t, len(s.b)+1)
				}
			}
		}
	}
}

// P10.1: every second byte that tells that a frame is masked, and mustn't be, or the other way round: ErrStreamMask as soon as it is there, ahead of all that is wrong with it else, or behind it.
func TestSecondByte(t *testing.T) {
	for _, masked := range boths {
		for _, first := range openings {
			for length := range 128 {
				for _, rest := range []string{"", "\x00", "\x00\x05", "\xff\xff", "\x80", "\x00\x00\x00\x00\x00\x00", "\x7f\xff\xff\xff\xff\xff\xff\xff", sample(140)} {
					b := string([]byte{first, second(!masked, length)}) + rest
					for _, ahead := range [][]api.Frame{nil, short(masked)} {
						s := right(t, masked, 125, ahead...)
						w := s.wrong(b, 2, api.ErrStreamMask)
						w.cut(t)
						w.cut(t, len(s.b)+1)
						w.cut(t, len(s.b), len(s.b)+2)
					}
				}
			}
		}
	}
}

// P10.1 and P10.3: each thing that is wrong, alone and behind frames that are right, in the same piece and in another one, cut at each place, comes to the same: the frames ahead of it, and the error as soon as it is known.
func TestEveryCutOfWrong(t *testing.T) {
	for _, masked := range boths {
		for _, most := range []int{125, 126, 65535, 65536} {
			for _, x := range faults(masked, most) {
				right(t, masked, most).wrong(x.b, x.known, x.err).everyCut(t)
				right(t, masked, most, short(masked)...).wrong(x.b, x.known, x.err).everyCut(t)
			}
		}
		for _, x := range faults(masked, 126) {
			s := right(t, masked, 126, talk(masked)...).wrong(x.b, x.known, x.err)
			for place := range len(s.b) + 1 {
				s.cut(t, place)
			}
			s.cut(t, s.ends...)
		}
	}
}

// P10.1: frames behind what is wrong, in the same piece too, are none, though they be right.
func TestRightBehindWrong(t *testing.T) {
	for _, masked := range boths {
		behind := right(t, masked, 126, talk(masked)...).b
		for _, x := range faults(masked, 126) {
			s := right(t, masked, 126, short(masked)...).wrong(x.b+string(behind), x.known, x.err)
			s.cut(t)
			s.cut(t, len(s.b)-len(behind))
			s.cut(t, s.known-1)
			s.cut(t, s.known)
		}
	}
}

// P10.1: a bound that is just enough for one frame is none for the next: all are held against it, at whatever place.
func TestLongBehindRight(t *testing.T) {
	for _, masked := range boths {
		for _, most := range []int{125, 126, 1000} {
			f := dress(masked, true, api.OpText, sample(most))
			long := tooLong(masked, most+1)
			for count := range 4 {
				s := right(t, masked, most, slices.Repeat([]api.Frame{f}, count)...)
				for _, rest := range []string{"", "a", sample(most + 5)} {
					w := s.wrong("\x02"+long+rest, 1+len(long), api.ErrFrameLong)
					w.cut(t)
					for place := len(s.b); place <= min(len(w.b), len(s.b)+8); place++ {
						w.cut(t, place)
					}
				}
			}
		}
	}
}

// plainStory is the story of any bytes, told beginning by beginning: what chapter 9's Get says of each, and of a second byte whether it is masked as it must be.
func plainStory(masked bool, most int, b []byte) story {
	s := story{masked: masked, most: most, b: b}
	start := 0
	for end := 1; end <= len(b); end++ {
		f, _, err := frame.Get(b[start:end], most)
		if end-start == 2 && (b[start+1] >= 128) != masked {
			err = api.ErrStreamMask
		}
		switch err {
		case api.OK:
			s.frames, s.ends = append(s.frames, f), append(s.ends, end)
			start = end
		case api.ErrFrameMore:
		default:
			s.err, s.known = err, end
			return s
		}
	}
	return s
}

// P10.1 to P10.3: all two bytes, and something behind each.
func TestAllTwoBytes(t *testing.T) {
	rests := []string{"", "\x00\x7d", "\x00\x7e\x00", "\x80", "\x00\x00\x00\x00\x00\x00", "abcdefgh\x81\x00\x81\x80abcd\xff", sample(150)}
	for v := range 1 << 16 {
		for i, rest := range rests {
			b := append([]byte{byte(v >> 8), byte(v)}, rest...)
			for _, masked := range boths {
				p := plainStory(masked, 125+v%2, b).play(t)
				for place := 1 + i%2; place < min(4, len(b)); place++ {
					p.to(place)
				}
				p.to(len(b))
			}
		}
	}
}

// P1 and P10.1 to P10.3: whatever comes, and however it is cut: where two bytes of cuts differ, there is one.
func FuzzFeed(f *testing.F) {
	for i, masked := range boths {
		for _, x := range faults(masked, 125) {
			f.Add(masked, i, []byte("\x89\x00\x81\x02Hi"+x.b), []byte("aabbab"))
			f.Add(masked, 125, []byte("\x89\x80abcd\x81\x82abcd\x01\x02"+x.b), []byte("abab"))
		}
		f.Add(masked, 65536, []byte("\x81\x05Hello\x82\x7e\x01\x00"+sample(300)), []byte("aaaabbbbbbbbab"))
		f.Add(masked, 300, []byte("\x81\x85\x00\x00\x00\x00Hello\x02\xfe\x01\x00"+sample(300)), []byte("abcdefgh"))
		f.Add(masked, -1, []byte(nil), []byte(nil))
	}
	f.Fuzz(func(t *testing.T, masked bool, most int, b, cuts []byte) {
		s := plainStory(masked, 125+int(uint(most)%(65536-124)), b)
		var places []int
		for i := 1; i < min(len(b), len(cuts)); i++ {
			if cuts[i] != cuts[i-1] {
				places = append(places, i)
			}
		}
		s.cut(t, places...)
		s.cut(t)
	})
}
