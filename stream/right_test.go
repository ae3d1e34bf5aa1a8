package stream_test

import (
	"slices"
	"testing"

	"pendentive/api"
)

// talk is some frames, one behind another: a message in parts with a ping between, an empty one, a pong, one with a length of three bytes, and an end.
func talk(masked bool) []api.Frame {
	return []api.Frame{
		dress(masked, false, api.OpText, "He"),
		dress(masked, true, api.OpPing, "there?"),
		dress(masked, false, api.OpMore, ""),
		dress(masked, true, api.OpMore, "llo"),
		dress(masked, true, api.OpBinary, ""),
		dress(masked, true, api.OpPong, "there!"),
		dress(masked, true, api.OpBinary, sample(126)),
		dress(masked, true, api.OpClose, "\x03\xe8"),
	}
}

// short is two frames, of few bytes.
func short(masked bool) []api.Frame {
	return []api.Frame{dress(masked, true, api.OpText, "Hi"), dress(masked, true, api.OpPing, "")}
}

// P10.1: no bytes, once and often, ahead of a frame, within it and behind it, are no frame, and nothing is wrong.
func TestFeedNothing(t *testing.T) {
	for _, masked := range boths {
		right(t, masked, 125).cut(t, 0, 0, 0)
		s := right(t, masked, 126, talk(masked)...)
		for place := range len(s.b) + 1 {
			s.cut(t, place, place, place)
		}
	}
}

// P10.1: a part of a frame, one frame, some, and some and a part, in one piece.
func TestFeedOfSome(t *testing.T) {
	for _, masked := range boths {
		frames := talk(masked)
		for count := range len(frames) {
			s := right(t, masked, 126, frames[:count]...)
			s.cut(t)
			next := frames[count]
			for n := range len(put(t, next)) {
				s.part(t, next, n).cut(t)
			}
		}
		right(t, masked, 126, frames...).cut(t)
	}
}

// P10.1: frames of each op, with Fin and without, with Data of each length that takes few bytes, and all are told as they are.
func TestEveryFrame(t *testing.T) {
	for _, masked := range boths {
		for _, opening := range openings {
			fin, op := opening >= 128, int(opening%128)
			for n := range 300 {
				if op >= 8 && n > 125 {
					break
				}
				f := dress(masked, fin, op, sample(n))
				for _, most := range []int{max(n, 125), 300, 65536} {
					right(t, masked, most, f).cut(t)
					right(t, masked, most, f, f).cut(t, 1, 2, 3)
				}
			}
		}
	}
}

// edges are places of long frames: those round their head and their end, and some between.
func edges(n int) []int {
	var out []int
	for place := 0; place < n; place++ {
		if place < 20 || place > n-5 || place%4093 == 0 {
			out = append(out, place)
		}
	}
	return out
}

// P10.1 and P10.3: frames of 65535 and 65536 bytes, alone and in a row, in one piece, cut at each place that may matter, and byte by byte.
func TestLongFrames(t *testing.T) {
	for _, masked := range boths {
		for _, n := range []int{65535, 65536} {
			f := dress(masked, true, api.OpBinary, sample(n))
			s := right(t, masked, n, f)
			s.cut(t)
			for _, place := range edges(len(s.b)) {
				s.cut(t, place)
				s.cut(t, place, place+1)
			}
			var each []int
			for place := 1; place < len(s.b); place++ {
				each = append(each, place)
			}
			s.cut(t, each...)
			row := right(t, masked, n, dress(masked, true, api.OpPing, "a"), f, dress(masked, false, api.OpText, "b"), f)
			row.cut(t)
			for _, place := range edges(row.ends[3]) {
				row.cut(t, place)
			}
		}
	}
}

// P10.1: Data of just the bound's bytes are told, and one more is ErrFrameLong as soon as the length is known.
func TestBoundOfData(t *testing.T) {
	for _, masked := range boths {
		for _, most := range []int{125, 126, 127, 128, 255, 256, 257, 1000, 65534, 65535, 65536} {
			for _, op := range []int{api.OpMore, api.OpText, api.OpBinary} {
				f := dress(masked, true, op, sample(most))
				right(t, masked, most, f).cut(t, 1)
				right(t, masked, most, dress(masked, false, op, sample(most-1)), f).cut(t, 5)
				long := tooLong(masked, most+1)
				s := right(t, masked, most, f).wrong(string(rune(op))+long, 1+len(long), api.ErrFrameLong)
				s.cut(t)
				for place := len(s.b) - len(long) - 1; place <= len(s.b); place++ {
					s.cut(t, place)
				}
			}
			for _, op := range []int{api.OpClose, api.OpPing, api.OpPong} { // no bound is below a control frame's
				right(t, masked, most, dress(masked, true, op, sample(125))).cut(t, 1, 2)
			}
		}
	}
}

// P10.2: Part of each beginning of a frame, with each size of length: as many bytes as came, in one piece and in two, and 0 behind its last one.
func TestPartOfEachBeginning(t *testing.T) {
	for _, masked := range boths {
		for _, n := range []int{0, 1, 5, 124, 125, 126, 127, 255, 256} {
			f := dress(masked, true, api.OpBinary, sample(n))
			size := len(put(t, f))
			for count := range size {
				for _, ahead := range [][]api.Frame{nil, short(masked)} {
					s := right(t, masked, 65536, ahead...).part(t, f, count)
					s.cut(t)
					s.cut(t, len(s.b)-count)
					s.cut(t, len(s.b)-count/2)
				}
			}
			whole := right(t, masked, 65536, f).play(t)
			for place := 1; place <= size; place++ {
				whole.to(place)
				if part := whole.s.Part(); part != place%size {
					t.Fatalf("Part of %d bytes of %d: %d", place, size, part)
				}
			}
			whole.end()
		}
	}
}

// P10.2: so of frames of many bytes.
func TestPartOfLongBeginnings(t *testing.T) {
	for _, masked := range boths {
		for _, n := range []int{65535, 65536} {
			f := dress(masked, false, api.OpText, sample(n))
			for _, count := range edges(len(put(t, f))) {
				right(t, masked, n, short(masked)...).part(t, f, count).cut(t)
			}
		}
	}
}

// P10.3: what is right comes to the same, however it is cut.
func TestEveryCutOfRight(t *testing.T) {
	for _, masked := range boths {
		right(t, masked, 125, short(masked)...).everyCut(t)
		right(t, masked, 125, dress(masked, true, api.OpText, "Hello"), dress(masked, true, api.OpText, "")).everyCut(t)
		all := right(t, masked, 126, talk(masked)...)
		all.everyCut(t)
		last := dress(masked, true, api.OpBinary, sample(256))
		for _, n := range []int{1, 2, 3, 4, 8, 200} {
			right(t, masked, 256, talk(masked)[:6]...).part(t, last, n).everyCut(t)
		}
		twice := append(talk(masked), talk(masked)...)
		right(t, masked, 65536, twice...).everyCut(t)
		for _, n := range []int{125, 126, 255, 256} {
			f := dress(masked, false, api.OpText, sample(n))
			right(t, masked, max(n, 125), f, f).everyCut(t)
		}
	}
}

// The rules: the frames that were handed out stay as they were, whatever comes then.
func TestAnswersStay(t *testing.T) {
	for _, masked := range boths {
		s := right(t, masked, 126, append(talk(masked), talk(masked)...)...).wrong("\x83", 1, api.ErrFrameForm)
		for step := 1; step <= len(s.b); step++ {
			str := made(t, masked, 126)
			var lists [][]api.Frame
			for piece := range slices.Chunk(s.b, step) {
				room := slices.Clone(piece)
				got, _ := str.Feed(room)
				spoil(room)
				lists = append(lists, got)
				_ = append(got, api.Frame{Op: 77}) // into its spare room, if it has some
			}
			if got := slices.Concat(lists...); !slices.Equal(got, s.frames) {
				t.Fatalf("in pieces of %d: %d frames, want %d, or others", step, len(got), len(s.frames))
			}
		}
	}
}

// P10.3: two streams, of which each has another way to be masked, another bound, and its own error, don't mind each other.
func TestSideBySide(t *testing.T) {
	for _, masked := range boths {
		for _, other := range boths {
			one := right(t, masked, 126, talk(masked)...)
			two := right(t, other, 125, short(other)...).wrong("\x81"+tooLong(other, 126), 1+3, api.ErrFrameLong)
			three := right(t, other, 65536, talk(other)[:3]...).wrong(string([]byte{129, second(!other, 5)})+"Hello", 2, api.ErrStreamMask)
			for step := 1; step < 12; step++ {
				plays := []*play{one.play(t), two.play(t), three.play(t), one.play(t)}
				for round := range len(one.b) {
					for i, p := range plays {
						p.to(min(len(p.b), p.from+1+(round+i)%step))
					}
				}
				for _, p := range plays {
					p.end()
				}
			}
		}
	}
}

// P10.1 and P10.3: a great many frames at once, and byte by byte.
func TestManyFrames(t *testing.T) {
	for _, masked := range boths {
		f := dress(masked, true, api.OpText, "a")
		b := put(t, f)
		const count = 1 << 18
		all := make([]byte, 0, count*len(b))
		for range count {
			all = append(all, b...)
		}
		for _, size := range []int{len(all), 65536, 1000, 1} {
			s := made(t, masked, 125)
			told := 0
			for piece := range slices.Chunk(all, size) {
				frames, err := s.Feed(piece)
				for _, got := range frames {
					if got != f {
						t.Fatalf("frame %d is another", told)
					}
				}
				told += len(frames)
				if err != api.OK {
					t.Fatalf("behind %d frames: error %d", told, err)
				}
			}
			if told != count || s.Part() != 0 || s.Err() != api.OK {
				t.Fatalf("in pieces of %d: %d frames of %d, Part %d", size, told, count, s.Part())
			}
		}
	}
}
