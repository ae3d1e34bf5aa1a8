package cut_test

import (
	"bytes"
	"encoding/binary"
	"fmt"
	"math"
	"slices"
	"strings"
	"testing"
	"unsafe"

	"pendentive/api"
	"pendentive/cut"
)

// greatest is how many bytes a message has at most.
const greatest = 1 << 20

// sample is n bytes of all values, in an order that no power of two repeats.
func sample(n int) string {
	out := make([]byte, n)
	for i := range out {
		out[i] = byte(i*167 + i/251 + 72)
	}
	return string(out)
}

// longest is a message of as many bytes as there may be, and one more.
var longest = sample(greatest + 1)

// ops are those of frames, those round them, and such as are an op of messages but for bits that some number of bits or bytes doesn't hold.
var ops = []int{
	-2, -1, 0, 1, 2, 3, 4, 5, 6, 7, 8, 9, 10, 11, 15, 16, 17, 18, 33, 34, 65, 66, 127, 128, 129, 130, 255,
	256, 257, 258, 1<<16 + 1, 1<<16 + 2, 1 << 32, 1<<32 + 1, 1<<32 + 2, -255, -254,
	math.MinInt32, math.MaxInt32, math.MinInt, math.MinInt + 1, math.MinInt + 2, math.MaxInt - 1, math.MaxInt,
}

// bounds are those that the chapter names, their neighbours, and such as are one but for higher bits.
var bounds = []int{
	-65537, -65536, -65535, -2, -1, 0, 1, 2, 3, 125, 65535, 65536, 65537, 65538, 1 << 17, 1<<17 + 1, 1 << 20,
	1 << 32, 1<<32 + 1, 1<<32 + 65536, -1 << 32, -1<<32 + 1, math.MinInt32, math.MaxInt32, math.MinInt, math.MinInt + 1, math.MaxInt - 1, math.MaxInt,
}

// sizes of messages that the chapter names, and their neighbours.
var sizes = []int{
	-2, -1, 0, 1, 2, 3, 65535, 65536, 65537, 1<<17 - 1, 1 << 17, 1<<17 + 1, 1<<20 - 1, 1 << 20, 1<<20 + 1, 1<<20 + 2, 1 << 21,
	1 << 32, 1<<32 + 1, -1 << 20, -1 << 32, -1<<32 + 1, math.MinInt32, math.MaxInt32, math.MinInt, math.MinInt + 1, math.MaxInt - 1, math.MaxInt,
}

// keys are masks of noughts, of 255s, and of bytes that are all different.
var keys = [][4]byte{{}, {255, 255, 255, 255}, {0x37, 0xfa, 0x21, 0x3d}}

// draws are numbers with one byte's lowest or highest bit, the least and the greatest, and such as have four different bytes.
var draws = []uint32{0, 1, 0x80, 0xff, 0x100, 0x8000, 0xff00, 0x10000, 0x800000, 0xff0000, 0x1000000, 0x80000000, 0xff000000, 0x37fa213d, 0x3d21fa37, 0x01020304, 0xfffffffe, 0xffffffff}

// frames of a message, without a mask.
func frameOf(op int, fin bool, data string) api.Frame { return api.Frame{Fin: fin, Op: op, Data: data} }
func text(fin bool, data string) api.Frame            { return frameOf(1, fin, data) }
func bytesOf(fin bool, data string) api.Frame         { return frameOf(2, fin, data) }
func more(fin bool, data string) api.Frame            { return frameOf(0, fin, data) }
func ping(data string) api.Frame                      { return frameOf(9, true, data) }

// masked is a frame with a mask.
func masked(f api.Frame, key [4]byte) api.Frame {
	f.Masked, f.Key = true, key
	return f
}

// told is a frame as a line, its Data cut.
func told(f api.Frame) string {
	return fmt.Sprintf("{Fin %v, Op %d, Masked %v, Key %x, Data %.12q of %d bytes}", f.Fin, f.Op, f.Masked, f.Key, f.Data, len(f.Data))
}

// line is frames as a line, the first ones alone if there are many.
func line(l []api.Frame) string {
	out := []string{fmt.Sprintf("%d frames", len(l))}
	for _, f := range l[:min(len(l), 6)] {
		out = append(out, told(f))
	}
	return strings.Join(out, " ")
}

// handed is what is handed in: each text of it in one room with more behind, the lists with more in their spare room.
type handed struct {
	list  []api.Frame
	draws []uint32
	room  []byte
	want  []api.Frame // what the list is, and its spare room, its texts elsewhere
	drawn []uint32
	bytes []byte
}

// hand is frames and draws as they are handed in.
func hand(l []api.Frame, draws []uint32) *handed {
	h := &handed{want: append(slices.Clone(l), ping("in the spare room"), text(true, "too")), drawn: append(slices.Clone(draws), 7, 77, 777)}
	for _, f := range l {
		h.bytes = append(h.bytes, f.Data...)
	}
	h.bytes = append(h.bytes, "behind"...)
	h.room = bytes.Clone(h.bytes)
	h.list, h.draws = slices.Clone(h.want), slices.Clone(h.drawn)
	at := 0
	for i, f := range l {
		h.list[i].Data = unsafe.String(&h.room[at], len(f.Data))
		at += len(f.Data)
	}
	h.list, h.draws = h.list[:len(l)], h.draws[:len(draws)]
	return h
}

// checkSame asks whether nothing of it is changed.
func (h *handed) checkSame(t *testing.T, by string) {
	t.Helper()
	if !slices.Equal(h.list[:len(h.want)], h.want) || !slices.Equal(h.draws[:len(h.drawn)], h.drawn) || !bytes.Equal(h.room, h.bytes) {
		t.Fatalf("%s of %s: what was handed in is changed", by, line(h.want[:len(h.list)]))
	}
}

// spoil changes all of it.
func (h *handed) spoil() {
	for i := range h.room {
		h.room[i] ^= 0x55
	}
	spoilFrames(h.list)
	for i := range h.drawn {
		h.draws[:len(h.drawn)][i] ^= 0x5a5a5a5a
	}
}

// spoilFrames changes a list, and all that lies in its spare room.
func spoilFrames(l []api.Frame) {
	l = l[:cap(l)]
	for i := range l {
		l[i] = api.Frame{Op: 77, Masked: true, Key: [4]byte{7, 7, 7, 7}, Data: "spoilt"}
	}
}

// spoilBytes changes bytes, and all that lies in their spare room.
func spoilBytes(b []byte) {
	b = b[:cap(b)]
	for i := range b {
		b[i] ^= 0xff
	}
}

// plainCount is how many frames a message is, one taken away after another.
func plainCount(size, most int) int {
	if size < 0 || size >= 1048577 || most <= 0 || most >= 65537 {
		return 0
	}
	n := 1
	for ; size > most; size -= most {
		n++
	}
	return n
}

// plainFrames is a message as frames, told by the chapter's words case by case.
func plainFrames(op int, data string, most int) ([]api.Frame, api.Errno) {
	switch {
	case op != 1 && op != 2:
		return nil, 130
	case most < 1 || most > 65536:
		return nil, 130
	case len(data) > 1048576:
		return nil, 130
	}
	var out []api.Frame
	for len(data) > most {
		out = append(out, api.Frame{Op: op, Data: data[:most]})
		op, data = 0, data[most:]
	}
	return append(out, api.Frame{Fin: true, Op: op, Data: data}), 0
}

// plainMasked is frames with masks.
func plainMasked(l []api.Frame, draws []uint32) ([]api.Frame, api.Errno) {
	if len(l) > len(draws) {
		return nil, 130
	}
	var out []api.Frame
	for i := 0; i < len(l); i++ {
		f := api.Frame{Fin: l[i].Fin, Op: l[i].Op, Masked: true, Data: l[i].Data}
		binary.BigEndian.PutUint32(f.Key[:], draws[i])
		out = append(out, f)
	}
	return out, 0
}

// plainCheck is whether a frame may be, told case by case.
func plainCheck(f api.Frame) api.Errno {
	control := f.Op == 8 || f.Op == 9 || f.Op == 10
	switch {
	case !control && f.Op != 0 && f.Op != 1 && f.Op != 2:
		return 91
	case control && (!f.Fin || len(f.Data) >= 126):
		return 91
	case !f.Masked && (f.Key[0] != 0 || f.Key[1] != 0 || f.Key[2] != 0 || f.Key[3] != 0):
		return 91
	case len(f.Data) >= 65537:
		return 92
	}
	return 0
}

// plainBytes is frames as bytes.
func plainBytes(l []api.Frame) ([]byte, api.Errno) {
	var out []byte
	for _, f := range l {
		if err := plainCheck(f); err != 0 {
			return nil, err
		}
		first, bit := byte(f.Op), byte(0)
		if f.Fin {
			first += 128
		}
		if f.Masked {
			bit = 128
		}
		out = append(out, first)
		switch n := len(f.Data); {
		case n <= 125:
			out = append(out, bit+byte(n))
		case n <= 65535:
			out = binary.BigEndian.AppendUint16(append(out, bit+126), uint16(n))
		default:
			out = binary.BigEndian.AppendUint64(append(out, bit+127), uint64(n))
		}
		if f.Masked {
			out = append(out, f.Key[0], f.Key[1], f.Key[2], f.Key[3])
		}
		for i := range len(f.Data) {
			out = append(out, f.Data[i]^f.Key[i%4]) // of one without a mask that may be noughts
		}
	}
	return out, 0
}

// plainJoin is the message of frames: the last one alone Fin, all ahead of it told one by one.
func plainJoin(l []api.Frame) (int, string, bool) {
	var data strings.Builder
	for i, f := range l {
		opens := f.Op == 1 || f.Op == 2
		if i == 0 && !opens || i != 0 && f.Op != 0 {
			return 0, "", false
		}
		data.WriteString(f.Data)
		if f.Fin {
			if i != len(l)-1 {
				return 0, "", false
			}
			return l[0].Op, data.String(), true
		}
	}
	return 0, "", false
}

// checkFrames asks Frames twice: the answers must be right, though what was handed in, and the other answer, are spoilt.
func checkFrames(t *testing.T, op int, data string, most int, want []api.Frame, wantErr api.Errno) {
	t.Helper()
	h := hand([]api.Frame{{Data: data}}, nil)
	got, err := cut.Frames(op, h.list[0].Data, most)
	other, otherErr := cut.Frames(op, h.list[0].Data, most)
	if err != otherErr || !slices.Equal(got, other) {
		t.Fatalf("Frames(%d, %.12q of %d bytes, %d): %s, error %d, and then %s, error %d", op, data, len(data), most, line(got), err, line(other), otherErr)
	}
	spoilFrames(other)
	h.checkSame(t, "Frames")
	h.spoil()
	if err != wantErr || !slices.Equal(got, want) {
		t.Fatalf("Frames(%d, %.12q of %d bytes, %d): %s, error %d, want %s, error %d", op, data, len(data), most, line(got), err, line(want), wantErr)
	}
	if n := cut.Count(len(data), most); wantErr == 0 && n != len(want) {
		t.Fatalf("Count(%d, %d): %d, want %d", len(data), most, n, len(want))
	}
}

// checkMasked asks Masked so.
func checkMasked(t *testing.T, l []api.Frame, draws []uint32, want []api.Frame, wantErr api.Errno) {
	t.Helper()
	h := hand(l, draws)
	got, err := cut.Masked(h.list, h.draws)
	other, otherErr := cut.Masked(h.list, h.draws)
	if err != otherErr || !slices.Equal(got, other) {
		t.Fatalf("Masked(%s, %x): %s, error %d, and then %s, error %d", line(l), draws, line(got), err, line(other), otherErr)
	}
	spoilFrames(other)
	h.checkSame(t, "Masked")
	h.spoil()
	if err != wantErr || !slices.Equal(got, want) {
		t.Fatalf("Masked(%s, %x): %s, error %d, want %s, error %d", line(l), draws[:min(len(draws), 6)], line(got), err, line(want), wantErr)
	}
}

// checkBytes asks Bytes so.
func checkBytes(t *testing.T, l []api.Frame, want []byte, wantErr api.Errno) {
	t.Helper()
	h := hand(l, nil)
	got, err := cut.Bytes(h.list)
	other, otherErr := cut.Bytes(h.list)
	if err != otherErr || !bytes.Equal(got, other) {
		t.Fatalf("Bytes(%s): %.40x, error %d, and then %.40x, error %d", line(l), got, err, other, otherErr)
	}
	spoilBytes(other)
	h.checkSame(t, "Bytes")
	h.spoil()
	if err != wantErr || !bytes.Equal(got, want) {
		t.Fatalf("Bytes(%s): %.40x (%d), error %d, want %.40x (%d), error %d", line(l), got, len(got), err, want, len(want), wantErr)
	}
}

// checkJoin asks Join so.
func checkJoin(t *testing.T, l []api.Frame, wantOp int, wantData string, want bool) {
	t.Helper()
	h := hand(l, nil)
	op, data, is := cut.Join(h.list)
	h.checkSame(t, "Join")
	h.spoil()
	if op != wantOp || data != wantData || is != want {
		t.Fatalf("Join(%s): %d, %.40q (%d), %t, want %d, %.40q (%d), %t", line(l), op, data, len(data), is, wantOp, wantData, len(wantData), want)
	}
}

// reckonFrames and those below ask for what the plain reckoning says.
func reckonFrames(t *testing.T, op int, data string, most int) {
	t.Helper()
	want, err := plainFrames(op, data, most)
	checkFrames(t, op, data, most, want, err)
}

func reckonMasked(t *testing.T, l []api.Frame, draws []uint32) {
	t.Helper()
	want, err := plainMasked(l, draws)
	checkMasked(t, l, draws, want, err)
}

func reckonBytes(t *testing.T, l []api.Frame) {
	t.Helper()
	want, err := plainBytes(l)
	checkBytes(t, l, want, err)
}

func reckonJoin(t *testing.T, l []api.Frame) {
	t.Helper()
	op, data, is := plainJoin(l)
	checkJoin(t, l, op, data, is)
}

// lists are all lists of so many of some frames, in all orders.
func lists(some []api.Frame, count int, do func([]api.Frame)) {
	var walk func(l []api.Frame)
	walk = func(l []api.Frame) {
		if len(l) == count {
			do(l)
			return
		}
		for _, f := range some {
			walk(append(l[:len(l):len(l)], f))
		}
	}
	walk(nil)
}

// The ways to put frames in order: so many.
func TestLists(t *testing.T) {
	for count, want := range []int{1, 3, 9, 27} {
		n := 0
		lists([]api.Frame{text(true, "a"), text(true, "b"), text(true, "c")}, count, func(l []api.Frame) {
			if len(l) == count {
				n++
			}
		})
		if n != want {
			t.Errorf("%d lists of %d", n, count)
		}
	}
}
