package cut_test

import (
	"slices"
	"testing"

	"pendentive/api"
	"pendentive/cut"
	"pendentive/frame"
)

// again asks whether a message that is cut is itself when it is joined, behind masks too, and when its bytes are read.
func again(t *testing.T, op int, data string, most int) {
	t.Helper()
	l, err := cut.Frames(op, data, most)
	if err != api.OK {
		t.Fatalf("Frames(%d, %d bytes, %d): error %d", op, len(data), most, err)
	}
	checkJoined(t, l, op, data, most)
	numbers := make([]uint32, len(l))
	for i := range numbers {
		numbers[i] = uint32(i+len(data)+1) * 0x9e3779b1
	}
	m, err := cut.Masked(l, numbers)
	if err != api.OK || len(m) != len(l) {
		t.Fatalf("Masked of %d bytes by %d: %d frames, error %d", len(data), most, len(m), err)
	}
	checkJoined(t, m, op, data, most)
	for _, frames := range [][]api.Frame{l, m} {
		if read := reread(t, frames); !slices.Equal(read, frames) {
			t.Fatalf("Bytes of %d bytes by %d: read as %s, want %s", len(data), most, line(read), line(frames))
		}
	}
}

// checkJoined asks whether frames are joined to that message.
func checkJoined(t *testing.T, l []api.Frame, op int, data string, most int) {
	t.Helper()
	if gotOp, got, is := cut.Join(l); gotOp != op || got != data || !is {
		t.Fatalf("Join of Frames(%d, %d bytes, %d): %d, %.40q (%d), %t", op, len(data), most, gotOp, got, len(got), is)
	}
}

// reread is frames as they are read from their bytes, one after another.
func reread(t *testing.T, l []api.Frame) []api.Frame {
	t.Helper()
	b, err := cut.Bytes(l)
	if err != api.OK {
		t.Fatalf("Bytes of %s: error %d", line(l), err)
	}
	var out []api.Frame
	for len(b) > 0 {
		f, n, err := frame.Get(b, api.MaxFrame)
		if err != api.OK {
			t.Fatalf("Bytes of %s: what is read behind %d frames has error %d", line(l), len(out), err)
		}
		out, b = append(out, f), b[n:]
	}
	return out
}

// P13.3: messages of both ops, of every size up to some hundred, by every bound up to some more, are themselves again.
func TestAgain(t *testing.T) {
	for n := range 201 {
		for most := 1; most < 220; most++ {
			for _, op := range []int{1, 2} {
				again(t, op, longest[n:2*n], most)
			}
		}
	}
}

// P13.3: so are long ones.
func TestLongAgain(t *testing.T) {
	for _, n := range []int{65535, 65536, 65537, 1 << 17, greatest - 1, greatest} {
		for _, most := range []int{7, 125, 126, 1000, 65535, 65536} {
			again(t, 1+n%2, longest[:n], most)
		}
	}
}

// P13.3, P1: so is the longest one by one byte, with as many frames as there can be, in good time.
func TestLongestAgain(t *testing.T) {
	again(t, 1, longest[:greatest], 1)
}

// framesOf are frames that bytes tell: a byte for op, Fin and mask, one for how many bytes of Data, and these.
func framesOf(b []byte) []api.Frame {
	someOps := []int{0, 1, 2, 8, 9, 10, 0, 1, 0, 3, 0, 2, 0, -1, 0, 0}
	var out []api.Frame
	for len(b) > 1 {
		n := min(int(b[1]), len(b)-2)
		f := api.Frame{Fin: b[0]&16 != 0, Op: someOps[b[0]&15], Masked: b[0]&32 != 0, Data: string(b[2 : 2+n])}
		if b[0]&64 != 0 {
			f.Key = keys[b[0]>>7+1]
		}
		out, b = append(out, f), b[2+n:]
	}
	return out
}

// P1 and P13.2: whatever frames there are, Masked, Bytes and Join answer, and none panics.
func FuzzLists(f *testing.F) {
	f.Add([]byte("\x01\x02He\x00\x02ll\x10\x01o"), []byte("abcdefgh"))
	f.Add([]byte("\x72\x05Hello\xf0\x00"), []byte{1, 2, 3, 4, 5, 6, 7, 8})
	f.Add([]byte("\x11\x00\x19\x00\x49\x00"), []byte{})
	f.Add([]byte("\x14\x7f"), []byte("abcdefghijkl"))
	f.Fuzz(func(t *testing.T, b, numbers []byte) {
		l := framesOf(b)
		var some []uint32
		for ; len(numbers) >= 4; numbers = numbers[4:] {
			some = append(some, uint32(numbers[0])<<24|uint32(numbers[1])<<16|uint32(numbers[2])<<8|uint32(numbers[3]))
		}
		reckonMasked(t, l, some)
		reckonBytes(t, l)
		reckonJoin(t, l)
	})
}
