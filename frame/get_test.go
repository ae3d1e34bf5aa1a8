package frame_test

import (
	"bytes"
	"encoding/binary"
	"math"
	"testing"

	"pendentive/api"
	"pendentive/frame"
)

// behind is what may stand behind a frame.
var behind = []string{"", "x", "\x00", "\x7e", "\x80", "\xc1", "\xff", "\x81\x05Hello", "\x88\x7e", "\x00\x00\x00\x00\x00\x00\x00\x00\x00\x00\x00\x00", "\xff\xff\xff\xff\xff\xff\xff\xff\xff\xff\xff\xff\xff\xff\xff"}

// bounds are such as tell nothing of a length, but that it may be or may not.
var bounds = []int{math.MinInt, math.MinInt32, -1, 0, 125, 65536, math.MaxInt32, math.MaxInt}

// mayBe is the frames that may be, with Data of each of the sizes.
func mayBe(sizes ...[]int) []api.Frame {
	var out []api.Frame
	for _, s := range sizes {
		each(s, func(f api.Frame) {
			if plainCheck(f) == api.OK {
				out = append(out, f)
			}
		})
	}
	return out
}

// openings are the first bytes that a frame can have.
var openings = []byte{0, 1, 2, 128, 129, 130, 136, 137, 138}

// plainGet is what bytes begin with, told case by case.
func plainGet(b []byte, most int) (api.Frame, int, api.Errno) {
	more, form := api.ErrFrameMore, api.ErrFrameForm
	if len(b) == 0 {
		return api.Frame{}, 0, more
	}
	if bytes.IndexByte(openings, b[0]) < 0 {
		return api.Frame{}, 0, form
	}
	if len(b) == 1 {
		return api.Frame{}, 0, more
	}
	f := api.Frame{Fin: b[0] >= 128, Op: int(b[0] % 128), Masked: b[1] >= 128}
	n, at := uint64(b[1]%128), 2
	switch {
	case n >= 126 && f.Op >= 8:
		return api.Frame{}, 0, form
	case n == 126 && len(b) < 4:
		return api.Frame{}, 0, more
	case n == 126:
		n, at = uint64(b[2])*256+uint64(b[3]), 4
		if n < 126 {
			return api.Frame{}, 0, form
		}
	case n == 127 && len(b) > 2 && b[2] >= 128:
		return api.Frame{}, 0, form
	case n == 127 && len(b) >= 8 && bytes.Equal(b[2:8], make([]byte, 6)):
		return api.Frame{}, 0, form
	case n == 127 && len(b) < 10:
		return api.Frame{}, 0, more
	case n == 127:
		n, at = binary.BigEndian.Uint64(b[2:]), 10
	}
	return plainRest(f, b, at, n, most)
}

// plainRest is the frame, of which all ahead of its Key is read.
func plainRest(f api.Frame, b []byte, at int, n uint64, most int) (api.Frame, int, api.Errno) {
	if most < 0 || uint64(most) < n {
		return api.Frame{}, 0, api.ErrFrameLong
	}
	if f.Masked {
		at += 4
	}
	if len(b) < at || uint64(len(b[at:])) < n {
		return api.Frame{}, 0, api.ErrFrameMore
	}
	end := at + int(n)
	data := bytes.Clone(b[at:end])
	if f.Masked {
		f.Key = [4]byte(b[at-4 : at])
		for i := range data {
			data[i] ^= f.Key[i%4]
		}
	}
	f.Data = string(data)
	return f, end, api.OK
}

func checkGet(t *testing.T, b []byte, most int, f api.Frame, n int, err api.Errno) {
	t.Helper()
	if gotF, gotN, gotErr := frame.Get(b, most); gotF != f || gotN != n || gotErr != err {
		t.Fatalf("Get of %.40x (%d), at most %d: %s, %d, error %d, want %s, %d, error %d", b, len(b), most, told(gotF), gotN, gotErr, told(f), n, err)
	}
}

// checkPlain holds what bytes begin with against plainGet.
func checkPlain(t *testing.T, b []byte, most int) {
	t.Helper()
	f, n, err := plainGet(b, most)
	checkGet(t, b, most, f, n, err)
}

// checkNone asks Get of bytes for an error, with which the frame is empty and the number 0.
func checkNone(t *testing.T, b []byte, most int, err api.Errno) {
	t.Helper()
	checkGet(t, b, most, api.Frame{}, 0, err)
}

// checkForm asks that bytes are known to be no frame's beginning, whatever stands behind and whatever the bound, and weren't ahead of their last one.
func checkForm(t *testing.T, b []byte) {
	t.Helper()
	for _, most := range bounds {
		for _, rest := range behind {
			checkNone(t, append(bytes.Clone(b), rest...), most, api.ErrFrameForm)
		}
		for size := range b {
			checkNone(t, b[:size], most, api.ErrFrameMore)
		}
	}
}

// P9.2: answers that are written out.
func TestKnownGets(t *testing.T) {
	key := [4]byte{0x37, 0xfa, 0x21, 0x3d}
	for _, x := range []struct {
		b    string
		most int
		f    api.Frame
		n    int
		err  api.Errno
	}{
		{"\x81\x05Hello", 5, api.Frame{Fin: true, Op: 1, Data: "Hello"}, 7, 0},
		{"\x81\x05Hello, you", 5, api.Frame{Fin: true, Op: 1, Data: "Hello"}, 7, 0},
		{"\x89\x00", 0, api.Frame{Fin: true, Op: 9}, 2, 0},
		{"\x00\x00\x00", 0, api.Frame{}, 2, 0},
		{"\x02\x02\x00\xff", 9, api.Frame{Op: 2, Data: "\x00\xff"}, 4, 0},
		{"\x81\x85\x37\xfa\x21\x3d\x7f\x9f\x4d\x51\x58\x00", 125, api.Frame{Fin: true, Op: 1, Masked: true, Key: key, Data: "Hello"}, 11, 0},
		{"\x88\x82\x37\xfa\x21\x3d\x34\x12", 125, api.Frame{Fin: true, Op: 8, Masked: true, Key: key, Data: "\x03\xe8"}, 8, 0},
		{"\x8a\x81\x00\x00\x00\x00a", 1, api.Frame{Fin: true, Op: 10, Masked: true, Data: "a"}, 7, 0},
		{"\x00\x80\x37\xfa\x21\x3d", 0, api.Frame{Masked: true, Key: key}, 6, 0},
		{"\x01\x7e\x00\x7e" + sample(126), 126, api.Frame{Op: 1, Data: sample(126)}, 130, 0},
		{"\x80\x7f\x00\x00\x00\x00\x00\x01\x00\x00" + sample(65536), 65536, api.Frame{Fin: true, Data: sample(65536)}, 65546, 0},
		{"", 125, api.Frame{}, 0, api.ErrFrameMore},
		{"\x81", 125, api.Frame{}, 0, api.ErrFrameMore},
		{"\x81\x05Hell", 125, api.Frame{}, 0, api.ErrFrameMore},
		{"\x81\x80\x37\xfa\x21", 125, api.Frame{}, 0, api.ErrFrameMore},
		{"\x81\x05", 4, api.Frame{}, 0, api.ErrFrameLong},
		{"\x81\x85", 4, api.Frame{}, 0, api.ErrFrameLong},
		{"\x89\x05Hello", 4, api.Frame{}, 0, api.ErrFrameLong},
		{"\x81\x00", -1, api.Frame{}, 0, api.ErrFrameLong},
		{"\x81\x7e\x00\x7e", 125, api.Frame{}, 0, api.ErrFrameLong},
		{"\x81\x7e\x00\x7d", 0, api.Frame{}, 0, api.ErrFrameForm},
		{"\x81\x7e\x00", 0, api.Frame{}, 0, api.ErrFrameMore},
		{"\x81\x7f\x80", 0, api.Frame{}, 0, api.ErrFrameForm},
		{"\x81\x7f\x7f\xff\xff\xff\xff\xff\xff", 0, api.Frame{}, 0, api.ErrFrameMore},
		{"\x81\x7f\x7f\xff\xff\xff\xff\xff\xff\xff", 0, api.Frame{}, 0, api.ErrFrameLong},
		{"\x81\x7f\x7f\xff\xff\xff\xff\xff\xff\xff", math.MaxInt, api.Frame{}, 0, api.ErrFrameMore},
		{"\x08", 125, api.Frame{}, 0, api.ErrFrameForm},
		{"\x88\x7e", 125, api.Frame{}, 0, api.ErrFrameForm},
		{"\x8a\xff", 1 << 20, api.Frame{}, 0, api.ErrFrameForm},
		{"\xc1", 125, api.Frame{}, 0, api.ErrFrameForm},
		{"\xa2", 125, api.Frame{}, 0, api.ErrFrameForm},
		{"\x90", 125, api.Frame{}, 0, api.ErrFrameForm},
		{"\x83\x00", -1, api.Frame{}, 0, api.ErrFrameForm},
	} {
		checkGet(t, []byte(x.b), x.most, x.f, x.n, x.err)
	}
}

// P9.2: no bytes are too few, whatever the bound; nil and empty are one.
func TestGetNothing(t *testing.T) {
	for _, most := range bounds {
		for _, b := range [][]byte{nil, {}, make([]byte, 0, 9), []byte("\xff\xff")[:0], []byte("\x81\x00")[2:]} {
			checkNone(t, b, most, api.ErrFrameMore)
		}
	}
}

// P9.2: of each frame that may be, with nothing behind and with something, and of each beginning of it.
func TestEveryBeginning(t *testing.T) {
	for _, f := range mayBe(few, some) {
		whole := plainBytes(f)
		for _, most := range []int{len(f.Data), len(f.Data) + 1, math.MaxInt} {
			for _, rest := range behind {
				checkGet(t, append(bytes.Clone(whole), rest...), most, f, len(whole), api.OK)
			}
			for size := range whole {
				checkNone(t, whole[:size], most, api.ErrFrameMore)
			}
		}
		for _, most := range []int{len(f.Data) - 1, -1, math.MinInt} {
			checkLong(t, whole, most)
		}
	}
}

// P9.2: so of frames of many bytes, and of more than a frame that is sent may have: Get's bound alone counts.
func TestEveryLongBeginning(t *testing.T) {
	for _, n := range []int{65535, 65536, 65537, 100000} {
		for _, f := range []api.Frame{{Op: 1, Data: sample(n)}, {Fin: true, Op: 2, Masked: true, Key: keys[2], Data: sample(n)}} {
			whole := plainBytes(f)
			for size := range whole {
				checkNone(t, whole[:size], n, api.ErrFrameMore)
			}
			for _, rest := range behind {
				checkGet(t, append(bytes.Clone(whole), rest...), n, f, len(whole), api.OK)
				checkGet(t, append(bytes.Clone(whole), rest...), math.MaxInt, f, len(whole), api.OK)
			}
			checkLong(t, whole, n-1)
		}
	}
}

// checkLong asks that a frame, whose bytes these are, is too long, as soon as its length is there, and not ahead of that.
func checkLong(t *testing.T, whole []byte, most int) {
	t.Helper()
	known := 2
	switch whole[1] % 128 {
	case 126:
		known = 4
	case 127:
		known = 10
	}
	for size := range known {
		checkNone(t, whole[:size], most, api.ErrFrameMore)
	}
	for size := known; size <= min(len(whole), known+20); size++ {
		checkNone(t, whole[:size], most, api.ErrFrameLong)
	}
	for _, rest := range behind {
		checkNone(t, append(bytes.Clone(whole), rest...), most, api.ErrFrameLong)
	}
}

// P9.2: every first byte: bits 64, 32 and 16, alone and together, ops that are none, and control frames without Fin are wrong as soon as it is there.
func TestFirstByte(t *testing.T) {
	for v := range 256 {
		b := []byte{byte(v)}
		op := v % 16
		if v&64 != 0 || v&32 != 0 || v&16 != 0 || !isControl(op) && !isMessage(op) || isControl(op) && v < 128 {
			checkForm(t, b)
			continue
		}
		for _, most := range bounds {
			checkNone(t, b, most, api.ErrFrameMore)
		}
		checkGet(t, []byte{byte(v), 0}, 0, api.Frame{Fin: v >= 128, Op: op}, 2, api.OK)
		checkGet(t, []byte{byte(v), 128, 1, 2, 3, 4}, 0, api.Frame{Fin: v >= 128, Op: op, Masked: true, Key: [4]byte{1, 2, 3, 4}}, 6, api.OK)
	}
}

// P9.2: every second byte behind every first one that may be; of a control frame 126 and 127, masked or not, are wrong as soon as it is there.
func TestSecondByte(t *testing.T) {
	for _, first := range openings {
		for v := range 256 {
			b := []byte{first, byte(v)}
			if first >= 136 && v%128 >= 126 {
				checkForm(t, b)
				continue
			}
			for _, most := range bounds {
				for _, rest := range behind {
					checkPlain(t, append(bytes.Clone(b), rest...), most)
				}
			}
			if v == 0 { // with it the frame is there, where it may be that long
				checkNone(t, b, -1, api.ErrFrameLong)
			} else if v%128 < 126 {
				checkNone(t, b, v%128-1, api.ErrFrameLong)
				checkNone(t, b, v%128, api.ErrFrameMore)
			} else {
				checkNone(t, b, -1, api.ErrFrameMore)
			}
		}
	}
}

// P9.2: two bytes below 126 together are no length, as soon as both are there; from 126 on they are one.
func TestTwoBytes(t *testing.T) {
	for _, first := range []byte{0, 1, 2, 128, 129, 130} {
		for _, second := range []byte{126, 254} {
			for n := range 126 {
				checkForm(t, []byte{first, second, 0, byte(n)})
			}
			for n := 126; n < 65536; n++ {
				b := []byte{first, second, byte(n >> 8), byte(n)}
				checkNone(t, b, n, api.ErrFrameMore)
				checkNone(t, b, n-1, api.ErrFrameLong)
			}
		}
	}
}

// P9.2: eight bytes of which the first six are noughts are no length, as soon as these are there; nor are eight from 128 on, as soon as the first is.
func TestEightBytes(t *testing.T) {
	for _, first := range []byte{0, 1, 2, 128, 129, 130} {
		for _, second := range []byte{127, 255} {
			checkForm(t, []byte{first, second, 0, 0, 0, 0, 0, 0})
			for v := 128; v < 256; v++ {
				checkForm(t, []byte{first, second, byte(v)})
			}
			for place := range 6 {
				b := []byte{first, second, 0, 0, 0, 0, 0, 0, 0, 0}
				b[2+place] = 1
				n := 1 << (8 * (7 - place))
				for size := range len(b) {
					checkNone(t, b[:size], -1, api.ErrFrameMore)
				}
				checkNone(t, b, n, api.ErrFrameMore)
				checkNone(t, b, n-1, api.ErrFrameLong)
				checkNone(t, append(b, "abcd and Data"...), n, api.ErrFrameMore)
			}
		}
	}
}

// P9.2: every length's bound: of 0, of one less than the length, of it, of one more, below 0, the least and the greatest int.
func TestMost(t *testing.T) {
	lengths := []int{0, 1, 2, 124, 125, 126, 127, 255, 256, 65535, 65536, 65537, 1<<31 - 1, 1 << 31, 1<<32 - 1, 1 << 32, 1<<32 + 5, 1 << 40, 1 << 62, math.MaxInt - 14, math.MaxInt - 10, math.MaxInt - 1, math.MaxInt}
	for _, n := range lengths {
		for _, f := range []api.Frame{{Op: 1}, {Fin: true, Op: 2}, {Fin: true}, {Fin: true, Op: 8}, {Fin: true, Op: 1, Masked: true, Key: keys[2]}, {Fin: true, Op: 9, Masked: true}} {
			if isControl(f.Op) && n > 125 {
				continue
			}
			b := plainOpening(f, uint64(n))
			for _, most := range []int{0, 1, n - 1, n, n + 1, -1, -2, -n, math.MinInt, math.MinInt + 1, math.MaxInt - 1, math.MaxInt} { // n + 1 of the greatest n is the least int
				if most < n {
					checkLong(t, b, most)
				} else if n > 0 {
					for size := range len(b) + 1 {
						checkNone(t, b[:size], most, api.ErrFrameMore)
					}
				}
			}
		}
	}
}

// P9.2: a length of 2^63 - 1, where most is the greatest int, is not there to its end, whatever is there of it, masked or not.
func TestGreatestLength(t *testing.T) {
	for _, second := range []byte{127, 255} {
		b := append([]byte{130, second, 127, 255, 255, 255, 255, 255, 255, 255}, sample(300)...)
		for size := range len(b) + 1 {
			checkNone(t, b[:size], math.MaxInt, api.ErrFrameMore)
		}
		for off := 1; off < 20; off++ {
			checkNone(t, b[:10], math.MaxInt-off, api.ErrFrameLong)
			checkNone(t, b, math.MaxInt-off, api.ErrFrameLong)
		}
	}
}

// P9.2: too long is told ahead of a Key and of Data, of which nothing is wrong; what is no frame is told ahead of that.
func TestFormAheadOfLong(t *testing.T) {
	for _, most := range []int{124, 0, -1, math.MinInt} {
		checkNone(t, []byte{129, 125}, most, api.ErrFrameLong)
		checkNone(t, []byte{129, 253}, most, api.ErrFrameLong)
		checkNone(t, []byte{137, 125}, most, api.ErrFrameLong)
		checkNone(t, []byte{9, 125}, most, api.ErrFrameForm)
		checkNone(t, []byte{131, 125}, most, api.ErrFrameForm)
		checkNone(t, []byte{145, 125}, most, api.ErrFrameForm)
		checkNone(t, []byte{137, 126}, most, api.ErrFrameForm)
		checkNone(t, []byte{137, 126, 0, 126}, most, api.ErrFrameForm)
		checkNone(t, []byte{137, 254, 255, 255}, most, api.ErrFrameForm)
		checkNone(t, []byte{137, 127, 0, 0, 0, 0, 0, 1, 0, 0}, most, api.ErrFrameForm)
		checkNone(t, []byte{130, 126, 0, 125}, most, api.ErrFrameForm)
		checkNone(t, []byte{130, 255, 0, 0, 0, 0, 0, 0}, most, api.ErrFrameForm)
		checkNone(t, []byte{130, 127, 255, 255, 255, 255, 255, 255, 255, 255}, most, api.ErrFrameForm)
	}
}

// P9.2: all two bytes, and many behind each, by each bound.
func TestGetOfAll(t *testing.T) {
	rests := []string{"", "\x00", "\x00\x7d", "\x00\x7e", "\x01\x00\x00\x00", "\x80", "\x00\x00\x00\x00\x00\x00", "\x00\x00\x00\x00\x00\x01\x00\x00", "\x7f\xff\xff\xff\xff\xff\xff\xff", "abcd", sample(20), sample(300), "\x00\x7e" + sample(200)}
	for v := range 1 << 16 {
		for _, rest := range rests {
			b := append([]byte{byte(v >> 8), byte(v)}, rest...)
			for _, most := range []int{-1, 0, 5, 125, 126, 1 << 16, math.MaxInt} {
				checkPlain(t, b, most)
			}
		}
	}
}

// P9.2: all ways of some values at each place of a length of eight, to each of their beginnings.
func TestGetOfEveryLength(t *testing.T) {
	values := []byte{0, 1, 128, 255}
	for way := range 1 << 16 {
		b := []byte{129, 127, 0, 0, 0, 0, 0, 0, 0, 0, 7}
		for i := range 8 {
			b[2+i] = values[way>>(2*i)%len(values)]
		}
		for size := range len(b) + 1 {
			checkPlain(t, b[:size:size], 1<<24)
		}
		b[1] = 255
		checkPlain(t, b, math.MaxInt)
	}
}

// P1 and P9.2: every call answers, whatever the bytes and the bound.
func FuzzGet(f *testing.F) {
	for _, most := range bounds {
		for _, first := range openings {
			f.Add([]byte{first, 5, 'H', 'e', 'l', 'l', 'o', 0}, most)
			f.Add([]byte{first, 133, 1, 2, 3, 4, 'H', 'e', 'l', 'l', 'o'}, most)
			f.Add([]byte{first, 126, 0, 125}, most)
			f.Add([]byte{first, 255, 127, 255, 255, 255, 255, 255, 255, 255, 1, 2, 3, 4, 5}, most)
		}
		f.Add([]byte(nil), most)
		f.Add([]byte{193}, most)
		f.Add(append([]byte{130, 126, 1, 0}, sample(300)...), most)
	}
	f.Fuzz(func(t *testing.T, b []byte, most int) {
		checkPlain(t, b, most)
		x, n, err := frame.Get(b, most)
		if err != api.OK || frame.Check(x) != api.OK {
			return
		}
		if put, err := frame.Put(x); err != api.OK || !bytes.Equal(put, b[:n]) {
			t.Errorf("Put of Get of %x: %x, error %d", b, put, err)
		}
	})
}
