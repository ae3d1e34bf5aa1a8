package sha_test

import (
	"bytes"
	"crypto/sha1"
	"encoding/hex"
	"strings"
	"testing"

	"pendentive/sha"
)

// edges are numbers of bytes round the ends of blocks, and of the room for the count of bits.
var edges = []int{0, 1, 2, 54, 55, 56, 57, 62, 63, 64, 65, 118, 119, 120, 121, 127, 128, 129, 183, 184, 191, 192, 193, 1000, 4096}

// sample is n bytes of all values, no two blocks alike.
func sample(n int) []byte {
	b := make([]byte, n)
	x := uint32(2463534242)
	for i := range b {
		x ^= x << 13
		x ^= x >> 17
		x ^= x << 5
		b[i] = byte(x >> 11)
	}
	return b
}

// addIn adds b in pieces whose sizes are those of the list, over and over.
func addIn(s *sha.Sum, b []byte, sizes []int) {
	for i := 0; len(b) > 0; i++ {
		n := min(sizes[i%len(sizes)], len(b))
		s.Add(b[:n])
		b = b[n:]
	}
}

func check(t *testing.T, s *sha.Sum, want []byte) {
	t.Helper()
	if got := s.Told(); got != sha1.Sum(want) {
		t.Errorf("of %d bytes: told %x, want %x", len(want), got, sha1.Sum(want))
	}
	if got := s.Len(); got != uint64(len(want)) {
		t.Errorf("of %d bytes: length %d", len(want), got)
	}
}

// P1.1: sums that are known, whatever any other program tells.
func TestKnownSums(t *testing.T) {
	for _, c := range []struct{ in, want string }{
		{"", "da39a3ee5e6b4b0d3255bfef95601890afd80709"},
		{"abc", "a9993e364706816aba3e25717850c26c9cd0d89d"},
		{"abcdbcdecdefdefgefghfghighijhijkijkljklmklmnlmnomnopnopq", "84983e441c3bd26ebaae4aa1f95129e5e54670f1"},
		{"The quick brown fox jumps over the lazy dog", "2fd4e1c67a2d28fced849ee1bb76e7391b93eb12"},
		{"dGhlIHNhbXBsZSBub25jZQ==258EAFA5-E914-47DA-95CA-C5AB0DC85B11", "b37a4f2cc0624f1690f64606cf385945b2bec4ea"},
		{strings.Repeat("a", 1000000), "34aa973cd4c4daa4f61eeb2bdbad27316534016f"},
	} {
		got := sha.Of([]byte(c.in))
		if hex.EncodeToString(got[:]) != c.want {
			t.Errorf("of %.20q: %x, want %s", c.in, got, c.want)
		}
	}
}

// P1.1: nil and empty are one.
func TestNothing(t *testing.T) {
	if sha.Of(nil) != sha.Of([]byte{}) {
		t.Error("nil and empty differ")
	}
	s := sha.New()
	check(t, s, nil)
	s.Add(nil)
	s.Add([]byte{})
	check(t, s, nil)
	s.Add([]byte("abc"))
	s.Add(nil)
	check(t, s, []byte("abc"))
}

// P1.1: every number of bytes up to some blocks, and the edges beyond.
func TestEveryLength(t *testing.T) {
	all := sample(4096)
	lengths := edges
	for n := range 260 {
		lengths = append(lengths, n)
	}
	for _, n := range lengths {
		if got, want := sha.Of(all[:n]), sha1.Sum(all[:n]); got != want {
			t.Errorf("of %d bytes: %x, want %x", n, got, want)
		}
	}
}

// P1.1: bytes of all ones and all noughts, so that no carry and no high bit is lost.
func TestPlainBytes(t *testing.T) {
	for _, fill := range []byte{0, 1, 127, 128, 255} {
		for _, n := range edges {
			b := bytes.Repeat([]byte{fill}, n)
			if got, want := sha.Of(b), sha1.Sum(b); got != want {
				t.Errorf("of %d times %d: %x, want %x", n, fill, got, want)
			}
		}
	}
}

// P1.1: a count of bits that needs more than three bytes.
func TestLongCount(t *testing.T) {
	b := sample(1<<21 + 7)
	if got, want := sha.Of(b), sha1.Sum(b); got != want {
		t.Errorf("of %d bytes: %x, want %x", len(b), got, want)
	}
}

// P1.1: a count of bits that 32 bits don't hold.
func TestLongerCount(t *testing.T) {
	b := sample(1 << 20)
	s, want := sha.New(), sha1.New()
	for range 513 {
		s.Add(b)
		want.Write(b)
	}
	if got := s.Told(); !bytes.Equal(got[:], want.Sum(nil)) {
		t.Errorf("told %x, want %x", got, want.Sum(nil))
	}
	if s.Len() != 513<<20 {
		t.Errorf("length %d", s.Len())
	}
}

// P1.1: how bytes are cut doesn't matter.
func TestPieces(t *testing.T) {
	all := sample(4096)
	for _, sizes := range [][]int{{1}, {2}, {3, 0}, {7}, {55}, {56}, {63}, {64}, {65}, {127}, {128}, {129}, {200}, {0, 1, 63, 64, 65}, {1000, 0, 24}} {
		for _, n := range edges {
			s := sha.New()
			addIn(s, all[:n], sizes)
			check(t, s, all[:n])
		}
	}
}

// P1.1: every cut in two.
func TestCutInTwo(t *testing.T) {
	for _, n := range []int{64, 120, 130, 193} {
		b := sample(n)
		for at := range n + 1 {
			s := sha.New()
			s.Add(b[:at])
			s.Add(b[at:])
			check(t, s, b)
		}
	}
}

// P1.1: Told and Len change nothing, and are right at each place.
func TestToldBetween(t *testing.T) {
	b := sample(300)
	s := sha.New()
	for i := range b {
		check(t, s, b[:i])
		check(t, s, b[:i])
		s.Add(b[i : i+1])
	}
	check(t, s, b)
}

// P1.1: two sums side by side don't touch each other.
func TestSideBySide(t *testing.T) {
	one, other := sample(200), bytes.Repeat([]byte("pendentive"), 20)
	s, o := sha.New(), sha.New()
	for i := range one {
		s.Add(one[i : i+1])
		check(t, o, other[:i])
		o.Add(other[i : i+1])
		check(t, s, one[:i+1])
	}
	check(t, sha.New(), nil)
}

// P1.1 and the rules: bytes that are changed after they were added have no weight.
func TestChangedAfterwards(t *testing.T) {
	for _, n := range edges {
		want := sample(n)
		given := bytes.Clone(want)
		s := sha.New()
		s.Add(given)
		for i := range given {
			given[i] ^= 255
		}
		check(t, s, want)
		s.Add(given)
		for i := range given {
			given[i] = 7
		}
		tail := bytes.Clone(want)
		for i := range tail {
			tail[i] ^= 255
		}
		check(t, s, append(want, tail...))
	}
}

// The rules: what is handed in isn't changed, its spare room included, and spare room has no weight.
func TestArgumentsStay(t *testing.T) {
	for _, n := range edges {
		room := sample(n + 200)
		before := bytes.Clone(room)
		if sha.Of(room[:n]) != sha1.Sum(before[:n]) {
			t.Errorf("of %d bytes with spare room: wrong", n)
		}
		s := sha.New()
		s.Add(room[:n])
		s.Told()
		if !bytes.Equal(room, before) {
			t.Errorf("of %d bytes: what was handed in is changed", n)
		}
	}
}

// The rules: what is handed out is new memory.
func TestAnswersAreNew(t *testing.T) {
	s := sha.New()
	s.Add([]byte("abc"))
	told := s.Told()
	for i := range told {
		told[i] = 0
	}
	check(t, s, []byte("abc"))
	if sha.New() == sha.New() {
		t.Error("two sums are one")
	}
}

// P1: every call answers and none panics, whatever bytes and cuts there are; beyond that, the sum.
func FuzzPieces(f *testing.F) {
	f.Add([]byte(nil), uint16(0))
	f.Add([]byte("abc"), uint16(1))
	for _, n := range edges {
		f.Add(sample(n), uint16(n/2))
	}
	f.Fuzz(func(t *testing.T, b []byte, at uint16) {
		cut := min(int(at), len(b))
		s := sha.New()
		s.Add(b[:cut])
		check(t, s, b[:cut])
		s.Add(b[cut:])
		check(t, s, b)
		if sha.Of(b) != s.Told() {
			t.Error("Of and Told differ")
		}
	})
}
