package mask_test

import (
	"bytes"
	"encoding/binary"
	"math"
	"testing"

	"pendentive/api"
	"pendentive/mask"
)

const most = 1<<63 - 1

// lengths are such as the document names, their neighbours, and others, with their bytes written out.
var lengths = []struct {
	n     uint64
	bytes string
}{
	{0, "\x00"}, {1, "\x01"}, {2, "\x02"}, {63, "\x3f"}, {64, "\x40"}, {124, "\x7c"}, {125, "\x7d"},
	{126, "\x7e\x00\x7e"}, {127, "\x7e\x00\x7f"}, {128, "\x7e\x00\x80"}, {254, "\x7e\x00\xfe"}, {255, "\x7e\x00\xff"},
	{256, "\x7e\x01\x00"}, {257, "\x7e\x01\x01"}, {32767, "\x7e\x7f\xff"}, {32768, "\x7e\x80\x00"}, {65534, "\x7e\xff\xfe"}, {65535, "\x7e\xff\xff"},
	{65536, "\x7f\x00\x00\x00\x00\x00\x01\x00\x00"}, {65537, "\x7f\x00\x00\x00\x00\x00\x01\x00\x01"},
	{1 << 24, "\x7f\x00\x00\x00\x00\x01\x00\x00\x00"},
	{1<<31 - 1, "\x7f\x00\x00\x00\x00\x7f\xff\xff\xff"}, {1 << 31, "\x7f\x00\x00\x00\x00\x80\x00\x00\x00"},
	{1<<32 - 1, "\x7f\x00\x00\x00\x00\xff\xff\xff\xff"}, {1 << 32, "\x7f\x00\x00\x00\x01\x00\x00\x00\x00"},
	{1 << 40, "\x7f\x00\x00\x01\x00\x00\x00\x00\x00"}, {1 << 48, "\x7f\x00\x01\x00\x00\x00\x00\x00\x00"},
	{1<<56 - 1, "\x7f\x00\xff\xff\xff\xff\xff\xff\xff"}, {1 << 56, "\x7f\x01\x00\x00\x00\x00\x00\x00\x00"},
	{0x0102030405060708, "\x7f\x01\x02\x03\x04\x05\x06\x07\x08"}, {1 << 62, "\x7f\x40\x00\x00\x00\x00\x00\x00\x00"},
	{most - 1, "\x7f\x7f\xff\xff\xff\xff\xff\xff\xfe"}, {most, "\x7f\x7f\xff\xff\xff\xff\xff\xff\xff"},
}

// behind is what may stand behind a length.
var behind = []string{"", "x", "\x00", "\x7d", "\x7e", "\x7f", "\x80", "\xff", "\x00\x00\x00\x00\x00\x00\x00\x00\x00", "\xff\xff\xff\xff\xff\xff\xff\xff\xff\xff", "\x7e\x00\x7d", "Hello"}

// plain is a length's bytes, told in another way than the program's.
func plain(n uint64) []byte {
	switch {
	case n <= 125:
		return []byte{byte(n)}
	case n <= 65535:
		return binary.BigEndian.AppendUint16([]byte{126}, uint16(n))
	}
	return binary.BigEndian.AppendUint64([]byte{127}, n)
}

// plainGet is what bytes begin with, told case by case.
func plainGet(b []byte) (uint64, int, api.Errno) {
	if len(b) == 0 {
		return 0, 0, api.ErrMaskMore
	}
	switch first := b[0] % 128; {
	case first < 126:
		return uint64(first), 1, api.OK
	case first == 126 && len(b) < 3:
		return 0, 0, api.ErrMaskMore
	case first == 126 && b[1] == 0 && b[2] < 126:
		return 0, 0, api.ErrMaskForm
	case first == 126:
		return uint64(binary.BigEndian.Uint16(b[1:])), 3, api.OK
	case len(b) > 1 && b[1] > 127:
		return 0, 0, api.ErrMaskForm
	case len(b) > 6 && bytes.Equal(b[1:7], make([]byte, 6)):
		return 0, 0, api.ErrMaskForm
	case len(b) < 9:
		return 0, 0, api.ErrMaskMore
	}
	return binary.BigEndian.Uint64(b[1:]), 9, api.OK
}

func checkGet(t *testing.T, b []byte, n uint64, size int, err api.Errno) {
	t.Helper()
	if gotN, gotSize, gotErr := mask.Get(b); gotN != n || gotSize != size || gotErr != err {
		t.Errorf("Get of %.80x: %d, %d, error %d, want %d, %d, error %d", b, gotN, gotSize, gotErr, n, size, err)
	}
}

// checkNone asks Get of bytes, the first one's highest bit as it is and set, for an error, with which all else is 0.
func checkNone(t *testing.T, s string, err api.Errno) {
	t.Helper()
	checkGet(t, []byte(s), 0, 0, err)
	if s != "" {
		checkGet(t, topSet([]byte(s)), 0, 0, err)
	}
}

// topSet is bytes with the first one's highest bit set.
func topSet(b []byte) []byte {
	b = bytes.Clone(b)
	b[0] |= 128
	return b
}

// checkLength asks that a length is put as bytes, and that these, whatever stands behind, are the length again, and no length as long as one of them is missing.
func checkLength(t *testing.T, n uint64, want []byte) {
	t.Helper()
	got, err := mask.Put(n)
	if err != api.OK || !bytes.Equal(got, want) {
		t.Errorf("Put(%d): %x, error %d, want %x", n, got, err, want)
	}
	for _, rest := range behind {
		b := append(bytes.Clone(want), rest...)
		checkGet(t, b, n, len(want), api.OK)
		checkGet(t, topSet(b), n, len(want), api.OK)
	}
	for size := range len(want) {
		checkNone(t, string(want[:size]), api.ErrMaskMore)
	}
}

// P8.2: lengths that are written out, each byte, and back again.
func TestKnownLengths(t *testing.T) {
	for _, x := range lengths {
		checkLength(t, x.n, []byte(x.bytes))
	}
}

// P8.2: every length up to the first that takes eight bytes more, and beyond.
func TestEveryLength(t *testing.T) {
	for n := range uint64(1<<16 + 1000) {
		want := plain(n)
		if got, err := mask.Put(n); err != api.OK || !bytes.Equal(got, want) {
			t.Fatalf("Put(%d): %x, error %d, want %x", n, got, err, want)
		}
		checkGet(t, want, n, len(want), api.OK)
		checkGet(t, append(want, 255), n, len(want), api.OK)
	}
}

// P8.2: lengths round each power of two, and of one byte of each value at each place.
func TestLengthsOfEachBit(t *testing.T) {
	for bit := range 63 {
		for off := uint64(0); off < 3; off++ {
			n := uint64(1)<<bit - 1 + off
			checkLength(t, n, plain(n))
			n = most - n
			checkLength(t, n, plain(n))
		}
	}
	for place := range 8 {
		for v := range uint64(256) {
			if n := v << (8 * place); n <= most {
				checkLength(t, n, plain(n))
			}
		}
	}
}

// P8.2: lengths above the greatest have no bytes.
func TestPutTooMuch(t *testing.T) {
	try := func(n uint64) {
		if b, err := mask.Put(n); err != api.ErrMaskForm || len(b) != 0 {
			t.Errorf("Put(%d): %x, error %d, want error %d", n, b, err, api.ErrMaskForm)
		}
	}
	for off := range uint64(300) {
		try(1<<63 + off)
		try(math.MaxUint64 - off)
	}
	for bit := range 63 {
		try(1<<63 + 1<<bit)
		try(math.MaxUint64 - 1<<bit)
	}
}

// P8.2: the document's examples.
func TestExamples(t *testing.T) {
	checkLength(t, 126, []byte{126, 0, 126})
	checkLength(t, 125, []byte{125})
	checkNone(t, "\x7e\x00\x7d", api.ErrMaskForm)
}

// P8.2: the first byte's highest bit doesn't count, whatever the byte.
func TestFirstByte(t *testing.T) {
	for v := range 256 {
		if v%128 < 126 {
			for _, rest := range behind {
				checkGet(t, append([]byte{byte(v)}, rest...), uint64(v%128), 1, api.OK)
			}
		} else {
			checkGet(t, []byte{byte(v)}, 0, 0, api.ErrMaskMore)
		}
	}
}

// P8.2: no bytes are too few; nil and empty are one.
func TestGetNothing(t *testing.T) {
	for _, b := range [][]byte{nil, {}, make([]byte, 0, 9), []byte("\x05\x06")[:0], []byte("\x05\x06")[2:]} {
		checkGet(t, b, 0, 0, api.ErrMaskMore)
	}
}

// P8.2: 126 and all two bytes, with something behind and without: below 126 they are no length, which the first of them can't tell yet.
func TestTwoBytes(t *testing.T) {
	checkNone(t, "\x7e", api.ErrMaskMore)
	for high := range 256 {
		b := []byte{126, byte(high)}
		checkNone(t, string(b), api.ErrMaskMore)
		for low := range 256 {
			b := append(bytes.Clone(b), byte(low))
			for _, rest := range []string{"", "\x00", "\xff\xff", "\x7e\x00\x7e\x00\x00\x00\x00"} {
				whole := append(bytes.Clone(b), rest...)
				if n := uint64(256*high + low); n < 126 {
					checkNone(t, string(whole), api.ErrMaskForm)
				} else {
					checkGet(t, whole, n, 3, api.OK)
					checkGet(t, topSet(whole), n, 3, api.OK)
				}
			}
		}
	}
}

// P8.2: 127 and a byte from 128 on is no length, whatever stands behind, as soon as that byte is there.
func TestTooHigh(t *testing.T) {
	checkNone(t, "\x7f", api.ErrMaskMore)
	for v := range 256 {
		for size := range 20 {
			for _, fill := range []byte{0, 1, 127, 128, 255} {
				b := append([]byte{127, byte(v)}, bytes.Repeat([]byte{fill}, size)...)
				if v >= 128 {
					checkNone(t, string(b), api.ErrMaskForm)
				} else if v > 0 && size < 7 {
					checkNone(t, string(b), api.ErrMaskMore)
				}
			}
		}
	}
}

// P8.2: 127 and six noughts are no length, whatever stands behind, as soon as the sixth is there, and not ahead of it.
func TestCouldBeShorter(t *testing.T) {
	for noughts := range 6 {
		checkNone(t, "\x7f"+string(make([]byte, noughts)), api.ErrMaskMore)
	}
	six := "\x7f" + string(make([]byte, 6))
	checkNone(t, six, api.ErrMaskForm)
	for v := range 256 {
		checkNone(t, six+string([]byte{byte(v)}), api.ErrMaskForm)
		for _, w := range []byte{0, 1, 125, 126, 127, 128, 254, 255} {
			two := six + string([]byte{byte(v), w})
			checkNone(t, two, api.ErrMaskForm)
			for _, rest := range behind {
				checkNone(t, two+rest, api.ErrMaskForm)
			}
		}
	}
}

// P8.2: 127 and six bytes of which one alone is no nought may be a length, but isn't one till all eight are there.
func TestOneOfSix(t *testing.T) {
	for place := 1; place <= 6; place++ {
		for v := 1; v < 256; v++ {
			if place == 1 && v > 127 {
				continue
			}
			b := make([]byte, 9)
			b[0], b[place] = 127, byte(v)
			for size := range len(b) {
				checkNone(t, string(b[:size]), api.ErrMaskMore)
			}
			checkLength(t, binary.BigEndian.Uint64(b[1:]), b)
		}
	}
}

// P8.2: all short bytes, and all ways of some values at each place of nine, to each of their beginnings.
func TestGetOfAll(t *testing.T) {
	try := func(b []byte) {
		n, size, err := plainGet(b)
		checkGet(t, b, n, size, err)
	}
	for v := range 1 << 16 {
		try([]byte{byte(v >> 8), byte(v)})
		try([]byte{126, byte(v >> 8), byte(v)})
		try([]byte{255, byte(v >> 8), byte(v)})
	}
	values := []byte{0, 1, 128, 255}
	for way := range 1 << 16 {
		b := []byte{127, 0, 0, 0, 0, 0, 0, 0, 0, 7}
		for i := range 8 {
			b[1+i] = values[way>>(2*i)%len(values)]
		}
		for size := range len(b) + 1 {
			try(b[:size:size])
		}
	}
}

// P8.2: a length has no other bytes than its own: what was read is itself again when it is put.
func TestThemselvesAgain(t *testing.T) {
	again := func(b []byte) {
		n, size, err := mask.Get(b)
		if err != api.OK {
			return
		}
		put, err := mask.Put(n)
		if err != api.OK || !bytes.Equal(put, b[:size]) {
			t.Fatalf("Put of Get of %x: %x, error %d", b, put, err)
		}
	}
	for v := range 1 << 16 {
		again([]byte{byte(v >> 8 % 128), byte(v), 0, 255})
		again([]byte{126, byte(v >> 8), byte(v)})
		again([]byte{127, 0, 0, 0, byte(v >> 12), byte(v >> 8 & 15), byte(v >> 4 & 15), byte(v & 15), byte(v)})
		again([]byte{127, byte(v >> 8), byte(v), 0, 0, 0, 0, byte(v), 1})
	}
}

// The rules: what is read isn't changed, its spare room included, and what lies in that room is no part of a length.
func TestReadStays(t *testing.T) {
	for _, x := range lengths {
		for size := range len(x.bytes) + 1 {
			room := []byte(x.bytes + "more behind")
			before := bytes.Clone(room)
			n, took, err := plainGet(before[:size])
			checkGet(t, room[:size], n, took, err)
			if !bytes.Equal(room, before) {
				t.Errorf("Get of %x: what was handed in is changed", before[:size])
			}
		}
	}
}

// The rules: a length's bytes are new memory.
func TestPutIsItsOwn(t *testing.T) {
	for _, x := range lengths {
		one, _ := mask.Put(x.n)
		other, _ := mask.Put(x.n)
		_ = append(other, "more behind"...)
		spoil(other)
		again, _ := mask.Put(x.n)
		if string(one) != x.bytes || string(again) != x.bytes {
			t.Errorf("Put(%d) hands one memory out twice: %x, %x", x.n, one, again)
		}
	}
}

// P1 and P8.2: every call answers, whatever the bytes.
func FuzzGet(f *testing.F) {
	for _, x := range lengths {
		f.Add([]byte(x.bytes))
		f.Add(topSet([]byte(x.bytes + "x")))
	}
	for _, s := range []string{"", "\x7e\x00", "\x7e\x00\x7d", "\x7f\x80", "\x7f\x00\x00\x00\x00\x00", "\x7f\x00\x00\x00\x00\x00\x00", "\xff\xff\xff\xff\xff\xff\xff\xff\xff"} {
		f.Add([]byte(s))
	}
	f.Fuzz(func(t *testing.T, b []byte) {
		n, size, err := plainGet(b)
		checkGet(t, b, n, size, err)
	})
}

// P1 and P8.2: every call answers, whatever the length.
func FuzzPut(f *testing.F) {
	for _, x := range lengths {
		f.Add(x.n)
	}
	f.Add(uint64(1 << 63))
	f.Add(uint64(math.MaxUint64))
	f.Fuzz(func(t *testing.T, n uint64) {
		if n <= most {
			checkLength(t, n, plain(n))
		} else if b, err := mask.Put(n); err != api.ErrMaskForm || len(b) != 0 {
			t.Errorf("Put(%d): %x, error %d", n, b, err)
		}
	})
}
