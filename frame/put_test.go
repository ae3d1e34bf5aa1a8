package frame_test

import (
	"bytes"
	"encoding/binary"
	"fmt"
	"math"
	"strings"
	"testing"

	"pendentive/api"
	"pendentive/frame"
)

// keys are masks of noughts, of 255s, of bytes that are all different, and of one bit alone at each place.
var keys = [][4]byte{
	{}, {255, 255, 255, 255}, {0x37, 0xfa, 0x21, 0x3d},
	{1, 0, 0, 0}, {0, 128, 0, 0}, {0, 0, 16, 0}, {0, 0, 0, 1},
}

// ops are all that one byte's four bits can tell, those round them, and such as are an op of api's but for bits that some number of bits or bytes doesn't hold.
var ops = []int{
	-2, -1, 0, 1, 2, 3, 4, 5, 6, 7, 8, 9, 10, 11, 12, 13, 14, 15, 16, 17,
	-8, -9, -10, 18, 24, 25, 26, 32, 33, 40, 64, 65, 72, 127, 128, 129, 130, 136, 137, 138, 255,
	256, 257, 258, 264, 265, 266, 1<<16 + 1, 1<<16 + 8, 1 << 32, 1<<32 + 1, 1<<32 + 8, 1<<32 + 9,
	math.MinInt32, math.MaxInt32, math.MinInt, math.MinInt + 1, math.MinInt + 8, math.MaxInt - 1, math.MaxInt,
}

// few, some and many are how many bytes of Data are tried: those that the document names, and their neighbours.
var (
	few  = []int{0, 1, 2, 3, 4, 5, 9, 124, 125}
	some = []int{126, 127, 128, 255, 256, 257}
	many = []int{65535, 65536}
	over = []int{65537, 65538, 1 << 17}
)

// sizes are all of them.
var sizes = append(append(append(append([]int{}, few...), some...), many...), over...)

// sample is Data of all values, in an order that no power of two repeats.
func sample(n int) string {
	out := make([]byte, n)
	for i := range out {
		out[i] = byte(i*167 + i/251 + 72)
	}
	return string(out)
}

// samples are Data of each of the sizes.
var samples = func() map[int]string {
	out := map[int]string{}
	for _, n := range sizes {
		out[n] = sample(n)
	}
	return out
}()

// isControl and isMessage are told by what the document lists.
func isControl(op int) bool { return op == 8 || op == 9 || op == 10 }
func isMessage(op int) bool { return op == 0 || op == 1 || op == 2 }

// plainCheck is whether a frame may be, told case by case.
func plainCheck(f api.Frame) api.Errno {
	switch {
	case !isControl(f.Op) && !isMessage(f.Op):
		return api.ErrFrameForm
	case isControl(f.Op) && !f.Fin:
		return api.ErrFrameForm
	case isControl(f.Op) && len(f.Data) >= 126:
		return api.ErrFrameForm
	case !f.Masked && (f.Key[0] != 0 || f.Key[1] != 0 || f.Key[2] != 0 || f.Key[3] != 0):
		return api.ErrFrameForm
	case len(f.Data) >= 65537:
		return api.ErrFrameLong
	}
	return api.OK
}

// plainOpening is the bytes of a frame ahead of its Data, of which it says it has n, told in another way than the program's.
func plainOpening(f api.Frame, n uint64) []byte {
	out := []byte{byte(f.Op)}
	if f.Fin {
		out[0] += 128
	}
	switch {
	case n <= 125:
		out = append(out, byte(n))
	case n <= 65535:
		out = binary.BigEndian.AppendUint16(append(out, 126), uint16(n))
	default:
		out = binary.BigEndian.AppendUint64(append(out, 127), n)
	}
	if f.Masked {
		out[1] += 128
		out = append(out, f.Key[0], f.Key[1], f.Key[2], f.Key[3])
	}
	return out
}

// plainBytes is a frame as bytes.
func plainBytes(f api.Frame) []byte {
	out := plainOpening(f, uint64(len(f.Data)))
	for i := range len(f.Data) {
		b := f.Data[i]
		if f.Masked {
			b ^= f.Key[i%4]
		}
		out = append(out, b)
	}
	return out
}

// plainSize is how many bytes a frame has, told by the chapter's numbers.
func plainSize(f api.Frame) int {
	n := 2 + len(f.Data)
	if len(f.Data) > 65535 {
		n += 8
	} else if len(f.Data) > 125 {
		n += 2
	}
	if f.Masked {
		n += 4
	}
	return n
}

// told is a frame as a line, its Data cut.
func told(f api.Frame) string {
	return fmt.Sprintf("{Fin %v, Op %d, Masked %v, Key %x, Data %.20q of %d bytes}", f.Fin, f.Op, f.Masked, f.Key, f.Data, len(f.Data))
}

// checkPut asks all that P9.1 says of a frame.
func checkPut(t *testing.T, f api.Frame, want api.Errno) {
	t.Helper()
	var bytesWanted []byte
	if want == api.OK {
		bytesWanted = plainBytes(f)
	}
	if got := frame.Check(f); got != want {
		t.Fatalf("Check of %s: error %d, want %d", told(f), got, want)
	}
	if b, err := frame.Put(f); err != want || !bytes.Equal(b, bytesWanted) {
		t.Fatalf("Put of %s: %.40x (%d), error %d, want %.40x (%d), error %d", told(f), b, len(b), err, bytesWanted, len(bytesWanted), want)
	}
	if got := frame.Size(f); got != plainSize(f) {
		t.Fatalf("Size of %s: %d, want %d", told(f), got, plainSize(f))
	}
}

// each goes over all ops, Fin or not, masked or not, by each of keys, with Data of each of sizes.
func each(sizes []int, do func(api.Frame)) {
	for _, op := range ops {
		for _, fin := range []bool{false, true} {
			for _, masked := range []bool{false, true} {
				for _, key := range keys {
					for _, n := range sizes {
						do(api.Frame{Fin: fin, Op: op, Masked: masked, Key: key, Data: samples[n]})
					}
				}
			}
		}
	}
}

// P9.1: answers that are written out.
func TestKnownFrames(t *testing.T) {
	key := [4]byte{0x37, 0xfa, 0x21, 0x3d}
	for _, x := range []struct {
		f    api.Frame
		want string
	}{
		{api.Frame{Fin: true, Op: 1, Data: "Hello"}, "\x81\x05Hello"},
		{api.Frame{Fin: true, Op: 9}, "\x89\x00"},
		{api.Frame{Fin: true, Op: 1, Masked: true, Key: key, Data: "Hello"}, "\x81\x85\x37\xfa\x21\x3d\x7f\x9f\x4d\x51\x58"},
		{api.Frame{Fin: true, Op: 10, Masked: true, Key: key, Data: "Hello"}, "\x8a\x85\x37\xfa\x21\x3d\x7f\x9f\x4d\x51\x58"},
		{api.Frame{Op: 1, Data: "Hel"}, "\x01\x03Hel"},
		{api.Frame{Data: "l"}, "\x00\x01l"},
		{api.Frame{}, "\x00\x00"},
		{api.Frame{Fin: true, Data: "lo"}, "\x80\x02lo"},
		{api.Frame{Op: 2, Data: "\x00\xff"}, "\x02\x02\x00\xff"},
		{api.Frame{Fin: true, Op: 2}, "\x82\x00"},
		{api.Frame{Fin: true, Op: 8}, "\x88\x00"},
		{api.Frame{Fin: true, Op: 8, Masked: true}, "\x88\x80\x00\x00\x00\x00"},
		{api.Frame{Fin: true, Op: 8, Masked: true, Key: key, Data: "\x03\xe8"}, "\x88\x82\x37\xfa\x21\x3d\x34\x12"},
		{api.Frame{Fin: true, Op: 8, Data: "\x03\xea"}, "\x88\x02\x03\xea"},
		{api.Frame{Fin: true, Op: 1, Masked: true, Data: "Hi"}, "\x81\x82\x00\x00\x00\x00Hi"},
		{api.Frame{Fin: true, Op: 9, Data: strings.Repeat("p", 125)}, "\x89\x7d" + strings.Repeat("p", 125)},
		{api.Frame{Fin: true, Op: 2, Data: strings.Repeat("a", 125)}, "\x82\x7d" + strings.Repeat("a", 125)},
		{api.Frame{Fin: true, Op: 2, Data: strings.Repeat("a", 126)}, "\x82\x7e\x00\x7e" + strings.Repeat("a", 126)},
		{api.Frame{Fin: true, Op: 2, Masked: true, Data: strings.Repeat("a", 126)}, "\x82\xfe\x00\x7e\x00\x00\x00\x00" + strings.Repeat("a", 126)},
		{api.Frame{Op: 1, Data: strings.Repeat("a", 256)}, "\x01\x7e\x01\x00" + strings.Repeat("a", 256)},
		{api.Frame{Fin: true, Op: 2, Data: strings.Repeat("a", 65535)}, "\x82\x7e\xff\xff" + strings.Repeat("a", 65535)},
		{api.Frame{Fin: true, Op: 2, Data: strings.Repeat("a", 65536)}, "\x82\x7f\x00\x00\x00\x00\x00\x01\x00\x00" + strings.Repeat("a", 65536)},
		{api.Frame{Masked: true, Key: [4]byte{1, 2, 3, 4}, Data: strings.Repeat("\x00", 65536)}, "\x00\xff\x00\x00\x00\x00\x00\x01\x00\x00\x01\x02\x03\x04" + strings.Repeat("\x01\x02\x03\x04", 16384)},
	} {
		if err := frame.Check(x.f); err != api.OK {
			t.Errorf("Check of %s: error %d", told(x.f), err)
		}
		if b, err := frame.Put(x.f); err != api.OK || string(b) != x.want {
			t.Errorf("Put of %s: %.40x (%d), error %d, want %.40x", told(x.f), b, len(b), err, x.want)
		}
		if n := frame.Size(x.f); n != len(x.want) {
			t.Errorf("Size of %s: %d, want %d", told(x.f), n, len(x.want))
		}
	}
}

// P9.1: frames that may not be, with the error and the size written out.
func TestKnownWrong(t *testing.T) {
	key := [4]byte{0, 0, 0, 1}
	for _, x := range []struct {
		f    api.Frame
		want api.Errno
		size int
	}{
		{api.Frame{Fin: true, Op: 3}, api.ErrFrameForm, 2},
		{api.Frame{Fin: true, Op: 7, Masked: true, Key: key}, api.ErrFrameForm, 6},
		{api.Frame{Fin: true, Op: 11, Data: "abc"}, api.ErrFrameForm, 5},
		{api.Frame{Fin: true, Op: 15}, api.ErrFrameForm, 2},
		{api.Frame{Fin: true, Op: -1}, api.ErrFrameForm, 2},
		{api.Frame{Fin: true, Op: 129}, api.ErrFrameForm, 2},
		{api.Frame{Fin: true, Op: 257}, api.ErrFrameForm, 2},
		{api.Frame{Fin: true, Op: math.MinInt}, api.ErrFrameForm, 2},
		{api.Frame{Fin: true, Op: math.MaxInt}, api.ErrFrameForm, 2},
		{api.Frame{Op: 8}, api.ErrFrameForm, 2},
		{api.Frame{Op: 9, Masked: true}, api.ErrFrameForm, 6},
		{api.Frame{Op: 10, Data: "a"}, api.ErrFrameForm, 3},
		{api.Frame{Fin: true, Op: 8, Data: sample(126)}, api.ErrFrameForm, 130},
		{api.Frame{Fin: true, Op: 9, Masked: true, Key: key, Data: sample(126)}, api.ErrFrameForm, 134},
		{api.Frame{Fin: true, Op: 10, Data: sample(65537)}, api.ErrFrameForm, 65547},
		{api.Frame{Fin: true, Op: 1, Key: key}, api.ErrFrameForm, 2},
		{api.Frame{Fin: true, Op: 1, Key: [4]byte{1}, Data: "abc"}, api.ErrFrameForm, 5},
		{api.Frame{Fin: true, Op: 2, Key: key, Data: sample(65537)}, api.ErrFrameForm, 65547},
		{api.Frame{Fin: true, Op: 5, Data: sample(65537)}, api.ErrFrameForm, 65547},
		{api.Frame{Op: 8, Masked: true, Data: sample(65537)}, api.ErrFrameForm, 65551},
		{api.Frame{Fin: true, Op: 2, Data: sample(65537)}, api.ErrFrameLong, 65547},
		{api.Frame{Op: 0, Masked: true, Data: sample(65537)}, api.ErrFrameLong, 65551},
		{api.Frame{Op: 1, Masked: true, Key: key, Data: sample(1 << 20)}, api.ErrFrameLong, 1<<20 + 14},
	} {
		checkPut(t, x.f, x.want)
		if n := frame.Size(x.f); n != x.size {
			t.Errorf("Size of %s: %d, want %d", told(x.f), n, x.size)
		}
	}
}

// P9.1: each op, Fin or not, masked or not, by each key, with Data of each size: what may be and what may not.
func TestEveryFrame(t *testing.T) {
	each(few, func(f api.Frame) { checkPut(t, f, plainCheck(f)) })
	each(some, func(f api.Frame) { checkPut(t, f, plainCheck(f)) })
}

// P9.1: so with Data of many bytes, and of too many.
func TestEveryLongFrame(t *testing.T) {
	each(many, func(f api.Frame) { checkPut(t, f, plainCheck(f)) })
	each(over, func(f api.Frame) { checkPut(t, f, plainCheck(f)) })
}

// P9.1: of messages' frames Data of every size to beyond the first that takes two bytes more, and round the last.
func TestEverySize(t *testing.T) {
	data := sample(66000)
	try := func(n int) {
		for _, op := range []int{0, 1, 2} {
			for _, fin := range []bool{false, true} {
				checkPut(t, api.Frame{Fin: fin, Op: op, Data: data[:n]}, plainCheck(api.Frame{Data: data[:n]}))
				checkPut(t, api.Frame{Fin: fin, Op: op, Masked: true, Key: keys[2], Data: data[len(data)-n:]}, plainCheck(api.Frame{Data: data[:n]}))
			}
		}
	}
	for n := range 600 {
		try(n)
	}
	for n := 65530; n < 65545; n++ {
		try(n)
	}
}

// P9.1: of control frames Data of every size to beyond the greatest.
func TestEveryControlSize(t *testing.T) {
	data := sample(300)
	for n := range len(data) + 1 {
		want := api.OK
		if n > 125 {
			want = api.ErrFrameForm
		}
		for _, op := range []int{8, 9, 10} {
			checkPut(t, api.Frame{Fin: true, Op: op, Data: data[:n]}, want)
			checkPut(t, api.Frame{Fin: true, Op: op, Masked: true, Key: keys[2], Data: data[:n]}, want)
			checkPut(t, api.Frame{Op: op, Data: data[:n]}, api.ErrFrameForm)
			checkPut(t, api.Frame{Op: op, Masked: true, Key: keys[2], Data: data[:n]}, api.ErrFrameForm)
		}
	}
}

// P9.1: a Key that isn't noughts, whatever its one byte that isn't, is wrong in a frame that isn't Masked, and right in one that is.
func TestKeyUnmasked(t *testing.T) {
	for _, op := range []int{0, 1, 2, 8, 9, 10} {
		for place := range 4 {
			for v := range 256 {
				var key [4]byte
				key[place] = byte(v)
				want := api.OK
				if v > 0 {
					want = api.ErrFrameForm
				}
				checkPut(t, api.Frame{Fin: true, Op: op, Key: key, Data: "Hello, you"}, want)
				checkPut(t, api.Frame{Fin: true, Op: op, Masked: true, Key: key, Data: "Hello, you"}, api.OK)
			}
		}
	}
}

// P9.1: Control is of 8, 9 and 10 alone.
func TestControl(t *testing.T) {
	for _, op := range ops {
		if got := frame.Control(op); got != isControl(op) {
			t.Errorf("Control(%d): %v", op, got)
		}
	}
	for op := -70000; op <= 70000; op++ {
		if got := frame.Control(op); got != isControl(op) {
			t.Errorf("Control(%d): %v", op, got)
		}
	}
	for bit := 5; bit < 63; bit++ {
		for low := range 16 {
			if op := 1<<bit + low; frame.Control(op) || frame.Control(-op) || frame.Control(op+math.MinInt) {
				t.Errorf("Control(%d), or of it below 0: true", op)
			}
		}
	}
}

// The rules: a frame's bytes are new memory.
func TestPutIsItsOwn(t *testing.T) {
	for _, f := range mayBe(few, some, many) {
		want := plainBytes(f)
		one, _ := frame.Put(f)
		other, _ := frame.Put(f)
		_ = append(other, "more behind"...)
		spoil(other)
		again, _ := frame.Put(f)
		if !bytes.Equal(one, want) || !bytes.Equal(again, want) {
			t.Errorf("Put of %s hands one memory out twice", told(f))
		}
	}
}

// P1 and P9.1: every call answers, whatever the frame.
func FuzzPut(f *testing.F) {
	for _, op := range ops {
		f.Add(op, true, true, uint32(0x37fa213d), []byte("Hello"), 0)
		f.Add(op, false, false, uint32(0), []byte("Hello"), 126)
		f.Add(op, true, false, uint32(1), []byte(nil), 65537)
	}
	f.Fuzz(func(t *testing.T, op int, fin, masked bool, key uint32, data []byte, more int) {
		x := api.Frame{Fin: fin, Op: op, Masked: masked, Data: string(data) + strings.Repeat("m", more&0x1ffff)}
		binary.BigEndian.PutUint32(x.Key[:], key)
		checkPut(t, x, plainCheck(x))
		if got := frame.Control(op); got != isControl(op) {
			t.Errorf("Control(%d): %v", op, got)
		}
	})
}
