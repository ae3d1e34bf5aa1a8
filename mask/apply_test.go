package mask_test

import (
	"bytes"
	"math"
	"math/big"
	"testing"

	"pendentive/mask"
)

// keys are masks of noughts, of 255s, of bytes that are all the same or all different, and of one bit alone.
var keys = [][4]byte{
	{}, {255, 255, 255, 255}, {0xa5, 0xa5, 0xa5, 0xa5},
	{1, 2, 3, 4}, {0x37, 0xfa, 0x21, 0x3d}, {0, 85, 170, 255},
	{1, 0, 0, 0}, {0, 128, 0, 0}, {0, 0, 16, 0}, {0, 0, 0, 255},
}

// places are those round 0, and round the bounds of whole numbers of each size.
var places = []int{
	0, 1, 2, 3, 4, 5, 6, 7, 8, 9, 10, 11, 300, 301, 302, 303,
	-1, -2, -3, -4, -5, -6, -7, -8, -9, -300, -301, -302, -303,
	math.MaxInt32 - 1, math.MaxInt32, math.MaxInt32 + 1, math.MaxInt32 + 2, math.MaxUint32, math.MaxUint32 + 1,
	math.MinInt32 - 2, math.MinInt32 - 1, math.MinInt32, math.MinInt32 + 1, -math.MaxUint32,
	math.MaxInt, math.MaxInt - 1, math.MaxInt - 2, math.MaxInt - 3, math.MaxInt - 4,
	math.MinInt, math.MinInt + 1, math.MinInt + 2, math.MinInt + 3, math.MinInt + 4,
}

// counts are of how many bytes turning is tried.
var counts = []int{0, 1, 2, 3, 4, 5, 6, 7, 8, 9, 255, 256, 257, 300}

// sample is bytes of all values, in an order that no power of two repeats.
func sample(n int) []byte {
	out := make([]byte, n)
	for i := range out {
		out[i] = byte(i*167 + i/251)
	}
	return out
}

// left is what is left of a place and i, divided by 4, from 0 to 3, reckoned by numbers that have no bound.
func left(at, i int) int {
	sum := new(big.Int).Add(big.NewInt(int64(at)), big.NewInt(int64(i)))
	return int(sum.Mod(sum, big.NewInt(4)).Int64())
}

// unlike is two bytes, unlike, bit by bit.
func unlike(a, b byte) byte {
	out := byte(0)
	for bit := range 8 {
		if a>>bit&1 != b>>bit&1 {
			out += 1 << bit
		}
	}
	return out
}

// turned is bytes as the chapter's words turn them.
func turned(key [4]byte, at int, b []byte) []byte {
	out := make([]byte, 0, len(b))
	from := left(at, 0)
	for i, value := range b {
		out = append(out, unlike(value, key[(from+i)%4]))
	}
	return out
}

func checkApply(t *testing.T, key [4]byte, at int, b []byte) {
	t.Helper()
	want := turned(key, at, b)
	if got := mask.Apply(key, at, b); !bytes.Equal(got, want) {
		t.Errorf("Apply(%v, %d, %.80x): %.80x, want %.80x", key, at, b, got, want)
	}
}

// spoil changes bytes, and all that lies in their spare room.
func spoil(b []byte) {
	b = b[:cap(b)]
	for i := range b {
		b[i] ^= 0xff
	}
}

// P8.1: answers that are written out.
func TestKnownTurns(t *testing.T) {
	key := [4]byte{0x37, 0xfa, 0x21, 0x3d}
	for _, x := range []struct {
		at   int
		b    string
		want string
	}{
		{0, "Hello", "\x7f\x9f\x4d\x51\x58"},
		{0, "\x7f\x9f\x4d\x51\x58", "Hello"},
		{0, "", ""},
		{0, "\x00", "\x37"},
		{0, "\x00\x00\x00", "\x37\xfa\x21"},
		{0, "\x00\x00\x00\x00", "\x37\xfa\x21\x3d"},
		{0, "\x00\x00\x00\x00\x00", "\x37\xfa\x21\x3d\x37"},
		{1, "\x00\x00\x00\x00\x00", "\xfa\x21\x3d\x37\xfa"},
		{2, "\x00\x00\x00\x00\x00", "\x21\x3d\x37\xfa\x21"},
		{3, "\x00\x00\x00\x00\x00", "\x3d\x37\xfa\x21\x3d"},
		{4, "\x00\x00\x00\x00\x00", "\x37\xfa\x21\x3d\x37"},
		{5, "\x00\x00\x00\x00\x00", "\xfa\x21\x3d\x37\xfa"},
		{-1, "\x00\x00\x00\x00\x00", "\x3d\x37\xfa\x21\x3d"},
		{-2, "\x00\x00\x00\x00\x00", "\x21\x3d\x37\xfa\x21"},
		{-3, "\x00\x00\x00\x00\x00", "\xfa\x21\x3d\x37\xfa"},
		{-4, "\x00\x00\x00\x00\x00", "\x37\xfa\x21\x3d\x37"},
		{-5, "\x00\x00\x00\x00\x00", "\x3d\x37\xfa\x21\x3d"},
		{math.MaxInt, "\x00\x00\x00\x00\x00", "\x3d\x37\xfa\x21\x3d"},
		{math.MinInt, "\x00\x00\x00\x00\x00", "\x37\xfa\x21\x3d\x37"},
		{0, "\xff\xff\xff\xff", "\xc8\x05\xde\xc2"},
	} {
		if got := mask.Apply(key, x.at, []byte(x.b)); string(got) != x.want {
			t.Errorf("Apply from %d of %x: %x, want %x", x.at, x.b, got, x.want)
		}
	}
}

// P8.1: every count, from every place, by every mask, each byte against the chapter's words.
func TestEveryPlace(t *testing.T) {
	for _, key := range keys {
		for _, at := range places {
			for _, n := range counts {
				checkApply(t, key, at, sample(n))
				checkApply(t, key, at, make([]byte, n))
				checkApply(t, key, at, bytes.Repeat([]byte{255}, n))
			}
		}
	}
}

// P8.1: what is left of each of many places in a row, below 0 and above, tells which of the mask's bytes turns.
func TestPlacesInARow(t *testing.T) {
	key := [4]byte{10, 11, 12, 13}
	for at := -1000; at <= 1000; at++ {
		if got := mask.Apply(key, at, []byte{0}); len(got) != 1 || got[0] != key[left(at, 0)] {
			t.Errorf("Apply from %d of a nought: %v, want %d", at, got, key[left(at, 0)])
		}
	}
}

// P8.1: all bytes by all bytes, at each place of a mask.
func TestEveryByte(t *testing.T) {
	all := make([]byte, 256)
	for v := range all {
		all[v] = byte(v)
	}
	for k := range 256 {
		checkApply(t, [4]byte{byte(k), byte(k), byte(k), byte(k)}, 0, all)
		for v := range 256 {
			for at := range 4 {
				key := [4]byte{1, 2, 4, 8}
				key[at] = byte(k)
				got := mask.Apply(key, at, []byte{byte(v)})
				if len(got) != 1 || got[0] != unlike(byte(k), byte(v)) {
					t.Fatalf("Apply(%v, %d, %d): %v, want %d", key, at, v, got, unlike(byte(k), byte(v)))
				}
			}
		}
	}
}

// P8.1: many bytes, more than any frame has.
func TestManyBytes(t *testing.T) {
	for _, n := range []int{1<<16 - 1, 1 << 16, 1<<16 + 1, 1 << 20} {
		for _, at := range []int{0, 1, -1, math.MinInt, math.MaxInt} {
			checkApply(t, [4]byte{0x37, 0xfa, 0x21, 0x3d}, at, sample(n))
		}
	}
}

// P8.1: nil and empty are one.
func TestTurnNothing(t *testing.T) {
	for _, key := range keys {
		for _, at := range places {
			for _, b := range [][]byte{nil, {}, make([]byte, 0, 9), []byte("abc")[:0], []byte("abc")[3:]} {
				if got := mask.Apply(key, at, b); len(got) != 0 {
					t.Errorf("Apply(%v, %d) of nothing: %x", key, at, got)
				}
			}
		}
	}
}

// P8.1: a number's bytes, the highest first.
func TestKey(t *testing.T) {
	for _, x := range []struct {
		n    uint32
		want [4]byte
	}{
		{0, [4]byte{0, 0, 0, 0}},
		{1, [4]byte{0, 0, 0, 1}},
		{255, [4]byte{0, 0, 0, 255}},
		{256, [4]byte{0, 0, 1, 0}},
		{65535, [4]byte{0, 0, 255, 255}},
		{65536, [4]byte{0, 1, 0, 0}},
		{0x01020304, [4]byte{1, 2, 3, 4}},
		{0x04030201, [4]byte{4, 3, 2, 1}},
		{0x37fa213d, [4]byte{0x37, 0xfa, 0x21, 0x3d}},
		{math.MaxInt32, [4]byte{127, 255, 255, 255}},
		{math.MaxInt32 + 1, [4]byte{128, 0, 0, 0}},
		{0xff000000, [4]byte{255, 0, 0, 0}},
		{math.MaxUint32 - 1, [4]byte{255, 255, 255, 254}},
		{math.MaxUint32, [4]byte{255, 255, 255, 255}},
	} {
		if got := mask.Key(x.n); got != x.want {
			t.Errorf("Key(%#x): %v, want %v", x.n, got, x.want)
		}
	}
	for at := range 4 {
		for v := range 256 {
			var want [4]byte
			want[at] = byte(v)
			n := uint32(v)
			for range 3 - at {
				n *= 256
			}
			if got := mask.Key(n); got != want {
				t.Errorf("Key(%#x): %v, want %v", n, got, want)
			}
		}
	}
}

// P8.3: turned twice, from each place, bytes are themselves.
func TestTurnedTwice(t *testing.T) {
	for _, key := range keys {
		for _, at := range places {
			for _, n := range counts {
				b := sample(n)
				if got := mask.Apply(key, at, mask.Apply(key, at, b)); !bytes.Equal(got, b) {
					t.Errorf("Apply(%v, %d) twice of %x: %x", key, at, b, got)
				}
			}
		}
	}
}

// P8.3: in pieces, cut at every place, in two and in three, bytes are turned as at once.
func TestTurnedInPieces(t *testing.T) {
	b := sample(40)
	for _, key := range keys {
		for _, at := range places {
			whole := mask.Apply(key, at, b)
			for one := range len(b) + 1 {
				for two := one; two <= len(b); two++ {
					got := mask.Apply(key, at, b[:one])
					got = append(got, mask.Apply(key, at+one, b[one:two])...)
					got = append(got, mask.Apply(key, at+two, b[two:])...)
					if !bytes.Equal(got, whole) {
						t.Fatalf("Apply(%v, %d) cut at %d and %d: %x, want %x", key, at, one, two, got, whole)
					}
				}
			}
		}
	}
}

// P8.3: so they are, cut at every place of many, and byte by byte.
func TestManyTurnedInPieces(t *testing.T) {
	b := sample(300)
	for _, key := range keys {
		for _, at := range places {
			whole := mask.Apply(key, at, b)
			var single []byte
			for i := range b {
				single = append(single, mask.Apply(key, at+i, b[i:i+1])...)
				got := append(mask.Apply(key, at, b[:i]), mask.Apply(key, at+i, b[i:])...)
				if !bytes.Equal(got, whole) {
					t.Fatalf("Apply(%v, %d) cut at %d: %x, want %x", key, at, i, got, whole)
				}
			}
			if !bytes.Equal(single, whole) {
				t.Fatalf("Apply(%v, %d) byte by byte: %x, want %x", key, at, single, whole)
			}
		}
	}
}

// P8.3 and the rules: what is turned isn't changed, its spare room included, and spare room has no weight.
func TestTurnedStays(t *testing.T) {
	for _, key := range keys {
		for _, n := range counts {
			room := sample(n + 20)
			before := bytes.Clone(room)
			got := mask.Apply(key, 1, room[:n])
			if !bytes.Equal(room, before) {
				t.Errorf("Apply(%v) of %d bytes: what was handed in is changed", key, n)
			}
			if !bytes.Equal(got, turned(key, 1, before[:n])) {
				t.Errorf("Apply(%v) of %d bytes with spare room: %x", key, n, got)
			}
			_ = append(got, "more behind"...)
			spoil(got)
			if !bytes.Equal(room, before) {
				t.Errorf("Apply(%v) of %d bytes: what is handed out shares memory with what was handed in", key, n)
			}
		}
	}
}

// P8.3 and the rules: what was handed out is its own, whatever becomes of what was handed in, and of other answers.
func TestTurnedIsItsOwn(t *testing.T) {
	for _, key := range keys {
		for _, n := range counts {
			b := sample(n + 20)
			want := turned(key, 3, b[:n])
			one, other := mask.Apply(key, 3, b[:n]), mask.Apply(key, 3, b[:n])
			spoil(b)
			spoil(other)
			if !bytes.Equal(one, want) {
				t.Errorf("Apply(%v) of %d bytes: %x, that was %x", key, n, one, want)
			}
		}
	}
}

// P1, P8.1 and P8.3: every call answers, whatever the number, the place and the bytes.
func FuzzApply(f *testing.F) {
	for _, at := range places {
		f.Add(uint32(0x37fa213d), at, []byte("Hello"))
	}
	f.Add(uint32(0), 0, []byte(nil))
	f.Add(uint32(math.MaxUint32), math.MinInt, sample(300))
	f.Fuzz(func(t *testing.T, n uint32, at int, b []byte) {
		key := mask.Key(n)
		if key != [4]byte{byte(n / (1 << 24)), byte(n / (1 << 16)), byte(n / (1 << 8)), byte(n)} {
			t.Errorf("Key(%#x): %v", n, key)
		}
		checkApply(t, key, at, b)
		if got := mask.Apply(key, at, mask.Apply(key, at, b)); !bytes.Equal(got, b) {
			t.Errorf("Apply(%v, %d) twice of %x: %x", key, at, b, got)
		}
	})
}
