package frame_test

import (
	"bytes"
	"math"
	"testing"

	"pendentive/api"
	"pendentive/frame"
)

// spoil changes bytes, and all that lies in their spare room.
func spoil(b []byte) {
	b = b[:cap(b)]
	for i := range b {
		b[i] ^= 0xff
	}
}

// put is a frame's bytes by Put, with which nothing may be wrong.
func put(t *testing.T, f api.Frame) []byte {
	t.Helper()
	b, err := frame.Put(f)
	if err != api.OK {
		t.Errorf("Put of %s: error %d", told(f), err)
	}
	return b
}

// P9.3: each frame that may be is itself again, whatever stands behind, and its size is the bytes that it has.
func TestItselfAgain(t *testing.T) {
	for _, f := range mayBe(few, some, many) {
		b := put(t, f)
		for _, rest := range behind {
			checkGet(t, append(bytes.Clone(b), rest...), len(f.Data), f, frame.Size(f), api.OK)
		}
		checkGet(t, b, math.MaxInt, f, len(b), api.OK)
	}
}

// P9.3: so is each of two, one behind the other.
func TestTwoInARow(t *testing.T) {
	frames := mayBe([]int{0, 1, 5, 125}, []int{126})
	for _, one := range frames {
		for _, other := range frames {
			b := append(put(t, one), put(t, other)...)
			n := frame.Size(one)
			checkGet(t, b, 126, one, n, api.OK)
			checkGet(t, b[n:], 126, other, len(b)-n, api.OK)
		}
	}
}

// P9.3: so is each of many, one behind the other, long ones among them.
func TestManyInARow(t *testing.T) {
	frames := mayBe(few, some, many)
	var b []byte
	for _, f := range frames {
		b = append(b, put(t, f)...)
	}
	for _, f := range frames {
		got, n, err := frame.Get(b, 1<<16)
		if err != api.OK || got != f || n != frame.Size(f) {
			t.Fatalf("Get: %s, %d bytes, error %d, want %s", told(got), n, err, told(f))
		}
		b = b[n:]
	}
	checkNone(t, b, 1<<16, api.ErrFrameMore)
}

// P9.3: a frame has no other bytes than its own: what was read is itself again when it is put.
func TestBytesThemselvesAgain(t *testing.T) {
	for v := range 1 << 16 {
		for _, rest := range []string{"", "\x00\x7f" + sample(200), "\x01\x00" + sample(300), sample(200)} {
			b := append([]byte{byte(v >> 8), byte(v)}, rest...)
			f, n, err := frame.Get(b, math.MaxInt)
			if err != api.OK {
				continue
			}
			if again, err := frame.Put(f); err != api.OK || !bytes.Equal(again, b[:n]) {
				t.Fatalf("Put of Get of %x: %x, error %d", b, again, err)
			}
		}
	}
}

// The rules: what is read isn't changed, its spare room included, and what lies in that room is no part of a frame.
func TestReadStays(t *testing.T) {
	for _, f := range mayBe(few, some) {
		whole := plainBytes(f)
		room := append(bytes.Clone(whole), "more behind"...)
		before := bytes.Clone(room)
		for _, size := range []int{0, 1, 2, 4, 6, 8, len(whole) - 1, len(whole), len(whole) + 3} {
			if size > len(room) {
				continue
			}
			for _, most := range []int{math.MaxInt, len(f.Data), 0, -1} {
				want, n, err := plainGet(before[:size:size], most)
				checkGet(t, room[:size], most, want, n, err)
			}
			if !bytes.Equal(room, before) {
				t.Fatalf("Get of %.40x: what was handed in is changed", before[:size])
			}
		}
	}
}

// The rules: so of frames of many bytes.
func TestLongReadStays(t *testing.T) {
	for _, f := range mayBe(many) {
		b := append(plainBytes(f), "more behind"...)
		before := bytes.Clone(b)
		checkGet(t, b[:frame.Size(f)], 1<<16, f, frame.Size(f), api.OK)
		if !bytes.Equal(b, before) {
			t.Fatalf("Get of %s: what was handed in is changed", told(f))
		}
	}
}

// The rules: what was handed out is its own, whatever becomes of the bytes that were handed in.
func TestGotIsItsOwn(t *testing.T) {
	for _, f := range mayBe(few, some, many) {
		b := plainBytes(f)
		got, _, err := frame.Get(b, 1<<16)
		spoil(b)
		if err != api.OK || got != f {
			t.Errorf("Get of %s: %s, error %d, as soon as what was handed in is changed", told(f), told(got), err)
		}
	}
}
