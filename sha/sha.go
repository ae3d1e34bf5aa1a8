// Package sha is layer 1: see shared/doc/01-sha.md.
package sha

const (
	blockSize = 64
	countSize = 8 // bytes of the count of bits that ends the last block
)

var startParts = [5]uint32{0x67452301, 0xefcdab89, 0x98badcfe, 0x10325476, 0xc3d2e1f0}

// roundNumbers holds the k of each twenty rounds.
var roundNumbers = [4]uint32{0x5a827999, 0x6ed9eba1, 0x8f1bbcdc, 0xca62c1d6}

// Sum takes bytes, and tells their sum.
type Sum struct {
	parts  [5]uint32
	block  [blockSize]byte // of which the first length%blockSize bytes wait for the rest
	length uint64
}

// New is a sum of no bytes.
func New() *Sum { return &Sum{parts: startParts} }

// Add takes bytes more.
func (s *Sum) Add(b []byte) {
	for len(b) > 0 {
		used := int(s.length % blockSize)
		n := copy(s.block[used:], b)
		s.length += uint64(n)
		b = b[n:]
		if used+n == blockSize {
			s.parts = mixed(s.parts, s.block)
		}
	}
}

// Told is the sum of all bytes so far.
func (s *Sum) Told() [20]byte {
	whole := *s // the ending goes into a copy, so that s can be added to further
	whole.Add(ending(s.length))
	return partBytes(whole.parts)
}

// Len is how many bytes there were.
func (s *Sum) Len() uint64 { return s.length }

// Of is the sum of bytes.
func Of(b []byte) [20]byte {
	s := New()
	s.Add(b)
	return s.Told()
}

// ending is what stands behind that many bytes, and fills their last block.
func ending(length uint64) []byte {
	over := int((length + 1 + countSize) % blockSize)
	noughts := (blockSize - over) % blockSize
	end := make([]byte, 1+noughts+countSize)
	end[0] = 128
	bits := length * 8
	for i := range countSize {
		end[1+noughts+i] = byte(bits >> (8 * (countSize - 1 - i)))
	}
	return end
}

// mixed is what the five parts become by a block.
func mixed(parts [5]uint32, block [blockSize]byte) [5]uint32 {
	words := blockWords(block)
	a, b, c, d, e := parts[0], parts[1], parts[2], parts[3], parts[4]
	for t := range 80 {
		next := turned(a, 5) + chosen(t, b, c, d) + e + words[t] + roundNumbers[t/20]
		a, b, c, d, e = next, a, turned(b, 30), c, d
	}
	return [5]uint32{parts[0] + a, parts[1] + b, parts[2] + c, parts[3] + d, parts[4] + e}
}

// blockWords is a block's 16 numbers, and the 64 that are made of them.
func blockWords(block [blockSize]byte) [80]uint32 {
	var words [80]uint32
	for t := range 16 {
		words[t] = uint32(block[4*t])<<24 | uint32(block[4*t+1])<<16 | uint32(block[4*t+2])<<8 | uint32(block[4*t+3])
	}
	for i := range 64 {
		t := 16 + i
		words[t] = turned(words[t-3]^words[t-8]^words[t-14]^words[t-16], 1)
	}
	return words
}

// chosen is the f of round t.
func chosen(t int, b, c, d uint32) uint32 {
	switch {
	case t < 20:
		return b&c | ^b&d
	case t >= 40 && t < 60:
		return b&c | b&d | c&d
	}
	return b ^ c ^ d
}

// turned has the n highest bits of x as its lowest ones.
func turned(x uint32, n uint) uint32 { return x<<n | x>>(32-n) }

// partBytes is the five parts as bytes, the highest byte first.
func partBytes(parts [5]uint32) [20]byte {
	var out [20]byte
	for i := range 20 {
		out[i] = byte(parts[i/4] >> (24 - 8*(i%4)))
	}
	return out
}
