package cut_test

import (
	"slices"
	"testing"

	"pendentive/api"
	"pendentive/cut"
)

// kinds are frames of all kinds: such as may be, with a mask and without, and such as may not.
func kinds() []api.Frame {
	out := []api.Frame{{}, text(true, "Hello"), bytesOf(true, ""), more(true, "lo"), ping("p"), frameOf(8, true, ""), frameOf(10, true, sample(125))}
	for _, key := range keys {
		out = append(out, masked(text(false, "He"), key), masked(more(true, ""), key))
	}
	return append(out,
		frameOf(3, true, "abc"), frameOf(-1, false, ""), frameOf(9, false, "p"), ping(sample(126)),
		api.Frame{Op: 1, Key: keys[2], Data: "key"}, api.Frame{Fin: true, Op: 2, Key: [4]byte{0, 0, 0, 1}},
	)
}

// long are frames of many bytes, and of too many.
func long() []api.Frame {
	return []api.Frame{text(false, longest[:65535]), masked(bytesOf(true, longest[:65536]), keys[2]), text(true, longest[:65537]), masked(more(false, longest[:65537]), keys[1]), more(true, longest), ping(longest[:65537]), frameOf(7, true, longest[:65537])}
}

// P13.2: answers of Masked that are written out.
func TestKnownMasked(t *testing.T) {
	hello := []api.Frame{{Op: 1, Data: "He"}, {Data: "ll"}, {Fin: true, Data: "o"}}
	for _, x := range []struct {
		l     []api.Frame
		draws []uint32
		want  []api.Frame
	}{
		{hello, []uint32{0x37fa213d, 0, 0xff}, []api.Frame{
			{Op: 1, Masked: true, Key: [4]byte{0x37, 0xfa, 0x21, 0x3d}, Data: "He"}, {Masked: true, Data: "ll"}, {Fin: true, Masked: true, Key: [4]byte{0, 0, 0, 255}, Data: "o"}}},
		{hello, []uint32{1 << 24, 1 << 16, 1 << 8, 1}, []api.Frame{
			{Op: 1, Masked: true, Key: [4]byte{1, 0, 0, 0}, Data: "He"}, {Masked: true, Key: [4]byte{0, 1, 0, 0}, Data: "ll"}, {Fin: true, Masked: true, Key: [4]byte{0, 0, 1, 0}, Data: "o"}}},
		{[]api.Frame{{Fin: true, Op: 9}}, []uint32{0xffffffff}, []api.Frame{{Fin: true, Op: 9, Masked: true, Key: [4]byte{255, 255, 255, 255}}}},
		{[]api.Frame{{Fin: true, Op: 2, Masked: true, Key: [4]byte{1, 2, 3, 4}, Data: "a"}}, []uint32{0x05060708}, []api.Frame{{Fin: true, Op: 2, Masked: true, Key: [4]byte{5, 6, 7, 8}, Data: "a"}}},
		{[]api.Frame{{Op: 2, Masked: true, Key: [4]byte{1, 2, 3, 4}, Data: "\x00"}}, []uint32{0}, []api.Frame{{Op: 2, Masked: true, Data: "\x00"}}},
		{[]api.Frame{{Op: 77, Key: [4]byte{1, 2, 3, 4}, Data: "no frame"}}, []uint32{9, 8, 7}, []api.Frame{{Op: 77, Masked: true, Key: [4]byte{0, 0, 0, 9}, Data: "no frame"}}},
		{nil, nil, nil},
		{nil, []uint32{1}, nil},
		{[]api.Frame{}, []uint32{}, nil},
		{[]api.Frame{}, []uint32{1, 2, 3}, nil},
	} {
		checkMasked(t, x.l, x.draws, x.want, 0)
	}
}

// P13.2: of fewer draws than frames: ErrCutSize, and no frames.
func TestTooFewDraws(t *testing.T) {
	for count := 1; count < 40; count++ {
		l := slices.Repeat([]api.Frame{text(true, "a")}, count)
		for n := range count {
			checkMasked(t, l, slices.Repeat(draws, 3)[:n], nil, 130)
		}
		for n := count; n < count+5; n++ {
			reckonMasked(t, l, slices.Repeat(draws, 3)[:n])
		}
	}
	for _, f := range append(kinds(), long()...) {
		checkMasked(t, []api.Frame{f}, nil, nil, 130)
		checkMasked(t, []api.Frame{f}, []uint32{}, nil, 130)
		checkMasked(t, []api.Frame{f, f}, []uint32{1}, nil, 130)
	}
}

// P13.2: all lists of up to three frames of all kinds, with fewer draws, as many and more.
func TestEveryMasked(t *testing.T) {
	for count := range 4 {
		lists(kinds(), count, func(l []api.Frame) {
			for n := range 6 {
				reckonMasked(t, l, draws[len(draws)-1-n:len(draws)-1])
			}
		})
	}
}

// P13.2: each frame has the key of its own draw, whichever that is, and is itself else.
func TestEveryDraw(t *testing.T) {
	for _, f := range append(kinds(), long()...) {
		for _, one := range draws {
			reckonMasked(t, []api.Frame{f}, []uint32{one})
		}
		reckonMasked(t, slices.Repeat([]api.Frame{f}, len(draws)), draws)
	}
	for bit := range 32 {
		for other := range 32 {
			l := []api.Frame{text(false, "a"), masked(more(true, "b"), keys[2])}
			got, err := cut.Masked(l, []uint32{1 << bit, 1 << other})
			if err != 0 || len(got) != 2 {
				t.Fatalf("bits %d and %d: %s, error %d", bit, other, line(got), err)
			}
			for i, at := range []int{bit, other} {
				want := l[i]
				want.Masked, want.Key = true, [4]byte{}
				want.Key[3-at/8] = 1 << (at % 8)
				if got[i] != want {
					t.Errorf("bit %d: %s, want %s", at, told(got[i]), told(want))
				}
			}
		}
	}
}

// P13.2, P1: many frames, and as many draws, one fewer, and more, in good time.
func TestManyMasked(t *testing.T) {
	some := slices.Concat(kinds(), long()[:2])
	for _, count := range []int{100, 1000, 10000} {
		var l []api.Frame
		var numbers []uint32
		for i := range count {
			l, numbers = append(l, some[i*7%len(some)]), append(numbers, uint32(i)*0x9e3779b1)
		}
		reckonMasked(t, l, numbers)
		reckonMasked(t, l, append(numbers, 1, 2, 3))
		reckonMasked(t, l, numbers[:count-1])
		reckonMasked(t, l[:count/2], numbers)
	}
}
