package ring_test

import (
	"bytes"
	"math"
	"testing"

	"pendentive/api"
	"pendentive/ring"
)

// small is up to which size rings are tried in every state.
const small = 6

// made is a ring that may be.
func made(t *testing.T, most int) *ring.Ring {
	t.Helper()
	r, err := ring.New(most)
	if err != api.OK || r == nil {
		t.Fatalf("New(%d): %v, error %d", most, r, err)
	}
	return r
}

// run is so many bytes that count on from one, round by round of 251, so that no power of two hides a byte in a wrong place.
func run(from, n int) []byte {
	out := make([]byte, n)
	for i := range out {
		out[i] = byte((from + i) % 251)
	}
	return out
}

// pair is a ring, and what it ought to hold, kept in the plainest way.
type pair struct {
	t    *testing.T
	r    *ring.Ring
	most int
	want []byte
}

func newPair(t *testing.T, most int) *pair {
	t.Helper()
	p := &pair{t: t, r: made(t, most), most: most}
	p.counts("New")
	return p
}

// counts holds Len and Room against what waits.
func (p *pair) counts(how string) {
	p.t.Helper()
	if p.r.Len() != len(p.want) || p.r.Room() != p.most-len(p.want) {
		p.t.Fatalf("ring for %d, behind %s: Len %d and Room %d, want %d and %d", p.most, how, p.r.Len(), p.r.Room(), len(p.want), p.most-len(p.want))
	}
}

func (p *pair) put(b []byte) {
	p.t.Helper()
	n := min(len(b), p.most-len(p.want))
	if got := p.r.Put(b); got != n {
		p.t.Fatalf("ring for %d with %d: Put of %d bytes: %d, want %d", p.most, len(p.want), len(b), got, n)
	}
	p.want = append(p.want, b[:n]...)
	p.counts("Put")
}

// first is what Peek and Take ought to answer.
func (p *pair) first(n int) []byte { return bytes.Clone(p.want[:max(0, min(n, len(p.want)))]) }

func (p *pair) peek(n int) []byte {
	p.t.Helper()
	got := p.r.Peek(n)
	if !bytes.Equal(got, p.first(n)) {
		p.t.Fatalf("ring for %d with %d: Peek(%d): %.80q, want %.80q", p.most, len(p.want), n, got, p.first(n))
	}
	p.counts("Peek")
	return got
}

func (p *pair) take(n int) []byte {
	p.t.Helper()
	want := p.first(n)
	got := p.r.Take(n)
	if !bytes.Equal(got, want) {
		p.t.Fatalf("ring for %d with %d: Take(%d): %.80q, want %.80q", p.most, len(p.want), n, got, want)
	}
	p.want = p.want[len(want):]
	p.counts("Take")
	return got
}

// all asks for everything, in both ways: first without taking it.
func (p *pair) all() {
	p.t.Helper()
	p.peek(p.most + 1)
	p.take(p.most + 1)
	p.take(1)
}

// turned is a ring whose next byte lies at that place, with so many bytes that wait from there on.
func turned(t *testing.T, most, place, count int) *pair {
	t.Helper()
	p := newPair(t, most)
	for range place {
		p.put([]byte{255})
		p.take(1)
	}
	p.put(run(1, count))
	return p
}

// everyState goes through all places and counts of rings for up to so many bytes.
func everyState(t *testing.T, most int, try func(fresh func() *pair)) {
	t.Helper()
	for size := 1; size <= most; size++ {
		for place := range size {
			for count := range size + 1 {
				try(func() *pair { return turned(t, size, place, count) })
			}
		}
	}
}

// P4.1: the chapter's example.
func TestExample(t *testing.T) {
	r := made(t, 4)
	if n := r.Put([]byte("abc")); n != 3 {
		t.Fatalf("Put abc: %d", n)
	}
	if b := r.Take(2); string(b) != "ab" {
		t.Fatalf("Take 2: %q", b)
	}
	if n := r.Put([]byte("defg")); n != 3 {
		t.Fatalf("Put defg: %d", n)
	}
	if b := r.Peek(9); string(b) != "cdef" {
		t.Fatalf("Peek 9: %q", b)
	}
}

// P4.1: sizes that may be, the smallest and the greatest among them: a ring without bytes, that holds so many and no more.
func TestSizes(t *testing.T) {
	for _, most := range []int{1, 2, 3, 255, 256, 257, api.MaxRing - 1, api.MaxRing} {
		p := newPair(t, most)
		p.peek(most)
		p.take(most)
		p.put(run(3, most+1))
		p.put([]byte{9})
		p.all()
		p.put(run(7, most))
		p.all()
	}
}

// P4.1 and P1: sizes that may not be: ErrRingSize, and no ring.
func TestWrongSizes(t *testing.T) {
	for _, most := range []int{0, -1, -2, -api.MaxRing, api.MaxRing + 1, 2 * api.MaxRing, 1 << 32, 1<<32 + 1, math.MinInt32, math.MaxInt32, math.MinInt, math.MinInt + 1, math.MaxInt} {
		if r, err := ring.New(most); err != api.ErrRingSize || r != nil {
			t.Fatalf("New(%d): %v, error %d", most, r, err)
		}
	}
}

// P4.1: Put of none, of fewer bytes than there is room for, of just as many and of more: the first ones wait.
func TestPut(t *testing.T) {
	for _, x := range []struct {
		there, put string
		n          int
		want       string
	}{
		{"", "", 0, ""}, {"", "v", 1, "v"}, {"", "vwxy", 4, "vwxy"}, {"", "vwxyz", 5, "vwxyz"}, {"", "vwxyz!", 5, "vwxyz"}, {"", "vwxyz!!vwxyz", 5, "vwxyz"},
		{"ab", "", 0, "ab"}, {"ab", "xy", 2, "abxy"}, {"ab", "xyz", 3, "abxyz"}, {"ab", "wxyz", 3, "abwxy"}, {"ab", "uvwxyz", 3, "abuvw"},
		{"abcd", "x", 1, "abcdx"}, {"abcd", "xy", 1, "abcdx"},
		{"abcde", "", 0, "abcde"}, {"abcde", "x", 0, "abcde"}, {"abcde", "vwxyz", 0, "abcde"}, {"abcde", "uvwxyz", 0, "abcde"},
	} {
		r := made(t, 5)
		r.Put([]byte(x.there))
		if n := r.Put([]byte(x.put)); n != x.n {
			t.Fatalf("Put of %q behind %q: %d, want %d", x.put, x.there, n, x.n)
		}
		if r.Len() != len(x.want) || r.Room() != 5-len(x.want) {
			t.Fatalf("Put of %q behind %q: Len %d, Room %d", x.put, x.there, r.Len(), r.Room())
		}
		if b := r.Take(5); string(b) != x.want {
			t.Fatalf("Put of %q behind %q: %q, want %q", x.put, x.there, b, x.want)
		}
	}
}

// P4.1: nil and empty are one: nothing waits by them.
func TestPutNothing(t *testing.T) {
	everyState(t, small, func(fresh func() *pair) {
		for _, b := range [][]byte{nil, {}, make([]byte, 0, 9), []byte("abc")[:0], []byte("abc")[3:]} {
			p := fresh()
			p.put(b)
			p.all()
		}
	})
}

// P4.1: a full ring takes nothing, whatever comes, till bytes are taken: then just as many.
func TestPutFull(t *testing.T) {
	for most := 1; most <= small; most++ {
		for place := range most {
			for more := range 2*most + 2 {
				p := turned(t, most, place, most)
				p.put(run(100, more))
				p.put(run(100, more))
				p.peek(most)
				for n := range most + 1 {
					p.take(n)
					p.put(run(50+n, n+more))
					p.peek(most)
				}
				p.all()
			}
		}
	}
}

// P4.1: Peek and Take of none, of numbers below 0, of fewer bytes than wait, of just as many and of more.
func TestFirst(t *testing.T) {
	for _, x := range []struct {
		there string
		n     int
		want  string
	}{
		{"", 0, ""}, {"", 1, ""}, {"", -1, ""}, {"", 5, ""}, {"", math.MaxInt, ""}, {"", math.MinInt, ""},
		{"abc", 0, ""}, {"abc", -1, ""}, {"abc", -3, ""}, {"abc", -4, ""}, {"abc", math.MinInt32, ""}, {"abc", math.MinInt, ""},
		{"abc", 1, "a"}, {"abc", 2, "ab"}, {"abc", 3, "abc"}, {"abc", 4, "abc"}, {"abc", 5, "abc"}, {"abc", 6, "abc"}, {"abc", math.MaxInt32, "abc"}, {"abc", math.MaxInt, "abc"},
		{"abcde", 0, ""}, {"abcde", -5, ""}, {"abcde", 4, "abcd"}, {"abcde", 5, "abcde"}, {"abcde", 6, "abcde"}, {"abcde", math.MaxInt - 1, "abcde"},
	} {
		r := made(t, 5)
		r.Put([]byte(x.there))
		if b := r.Peek(x.n); string(b) != x.want || r.Len() != len(x.there) {
			t.Fatalf("Peek(%d) of %q: %q, want %q; Len %d", x.n, x.there, b, x.want, r.Len())
		}
		left := x.there[len(x.want):]
		if b := r.Take(x.n); string(b) != x.want || r.Len() != len(left) || r.Room() != 5-len(left) {
			t.Fatalf("Take(%d) of %q: %q, want %q; Len %d, Room %d", x.n, x.there, b, x.want, r.Len(), r.Room())
		}
		if b := r.Take(5); string(b) != left {
			t.Fatalf("behind Take(%d) of %q: %q, want %q", x.n, x.there, b, left)
		}
	}
}

// P4.1: every Put, Peek and Take in every state: bytes round the ring's end, in every place where they may begin.
func TestEveryState(t *testing.T) {
	everyState(t, small, func(fresh func() *pair) {
		for n := -2; n <= small+2; n++ {
			p := fresh()
			p.peek(n)
			p.take(n)
			p.all()
			p = fresh()
			p.put(run(100, max(0, n)))
			p.peek(small)
			for len(p.want) > 0 {
				p.take(1)
			}
			p = fresh()
			p.take(n)
			p.put(run(100, 2*small))
			p.peek(n)
			p.all()
		}
	})
}

// P4.1: round the end of the greatest ring, with bytes at both sides of it.
func TestGreatestRound(t *testing.T) {
	p := newPair(t, api.MaxRing)
	for _, place := range []int{1, 2, 255, 256, 32767, 32768, 32769, api.MaxRing - 1} {
		p.put(run(5, place))
		p.take(place)
		p.put(run(11, api.MaxRing+1))
		p.peek(api.MaxRing - place)
		p.peek(api.MaxRing - place + 1)
		p.take(place)
		p.put(run(17, place))
		p.all()
	}
}

// P4.1: Peek, Len and Room change nothing, however often they are asked, and whatever is done behind them.
func TestPeekChangesNothing(t *testing.T) {
	everyState(t, small, func(fresh func() *pair) {
		for n := -1; n <= small+1; n++ {
			p := fresh()
			p.peek(n)
			p.peek(n)
			p.peek(small)
			p.counts("Len and Room")
			p.put([]byte{77, 78})
			p.peek(n)
			p.peek(small)
			p.take(1)
			p.peek(n)
			p.put([]byte{79})
			p.all()
		}
	})
}

// P4.1 and P4.2: every way of some calls one behind another, Len and Room behind each, and all that waits at the end.
func TestEveryWay(t *testing.T) {
	for most := 1; most <= 3; most++ {
		calls := []func(*pair, int){}
		for n := range most + 2 {
			calls = append(calls,
				func(p *pair, at int) { p.put(run(10*at, n)) },
				func(p *pair, at int) { p.peek(n) },
				func(p *pair, at int) { p.take(n) })
		}
		const steps = 4
		ways := 1
		for range steps {
			ways *= len(calls)
		}
		for way := range ways {
			p := newPair(t, most)
			for at := range steps {
				calls[way%len(calls)](p, at)
				way /= len(calls)
			}
			p.all()
		}
	}
}

// spoil changes bytes, and all that lies in their spare room.
func spoil(b []byte) {
	b = b[:cap(b)]
	for i := range b {
		b[i] ^= 0xff
	}
}

// The rules: what is put is neither changed nor kept, spare room included.
func TestPutKeepsNothing(t *testing.T) {
	everyState(t, small, func(fresh func() *pair) {
		for n := range 2*small + 1 {
			p := fresh()
			room := run(100, n+4)
			before := bytes.Clone(room)
			p.put(room[:n])
			if !bytes.Equal(room, before) {
				t.Fatalf("Put of %d: what was handed in is changed", n)
			}
			spoil(room[:n])
			p.peek(small)
			p.put(run(50, 1))
			spoiled := bytes.Clone(room)
			p.all()
			p.put(run(60, small))
			p.all()
			if !bytes.Equal(room, spoiled) {
				t.Fatalf("Put of %d: what was handed in is changed later", n)
			}
		}
	})
}

// The rules: what is handed out is new memory: whatever is done to it, spare room included, changes nothing of the ring.
func TestAnswersAreNew(t *testing.T) {
	everyState(t, small, func(fresh func() *pair) {
		for n := -1; n <= small+1; n++ {
			p := fresh()
			spoil(p.peek(n))
			p.peek(small)
			_ = append(p.peek(n), "more behind"...)
			p.peek(small)
			spoil(p.take(n))
			p.peek(small)
			p.put(run(100, small))
			p.all()
			p = fresh()
			_ = append(p.take(n), "more behind"...)
			p.put(run(100, small))
			p.all()
		}
	})
}

// The rules: what was handed out stays as it was, whatever the ring does then, and no two answers share memory.
func TestAnswersStay(t *testing.T) {
	everyState(t, small, func(fresh func() *pair) {
		for n := 1; n <= small; n++ {
			p := fresh()
			one, other := p.peek(n), p.peek(n)
			taken := p.take(n)
			before := bytes.Clone(taken)
			for range 3 {
				p.put(run(100, small))
				p.all()
			}
			if !bytes.Equal(one, before) || !bytes.Equal(other, before) || !bytes.Equal(taken, before) {
				t.Fatalf("%q, %q and %q, that were %q", one, other, taken, before)
			}
			spoil(one)
			if !bytes.Equal(other, before) || !bytes.Equal(taken, before) {
				t.Fatalf("%q and %q, that were %q, by a change of another answer", other, taken, before)
			}
			spoil(other)
			if !bytes.Equal(taken, before) {
				t.Fatalf("%q, that was %q, by a change of another answer", taken, before)
			}
		}
	})
}

// P4.1: a ring's own bytes may be put into it again.
func TestPutOwnBytes(t *testing.T) {
	everyState(t, small, func(fresh func() *pair) {
		p := fresh()
		p.put(p.peek(small))
		p.put(p.take(2))
		p.put(p.peek(1))
		p.all()
	})
}

// P4.2: two rings side by side don't touch each other.
func TestSideBySide(t *testing.T) {
	for most := 1; most <= small; most++ {
		for otherMost := 1; otherMost <= small; otherMost++ {
			one, other := newPair(t, most), newPair(t, otherMost)
			for round := range 3 * small {
				one.put(run(round, 2))
				other.put(run(100+round, 3))
				one.peek(most)
				other.take(1 + round%3)
				one.take(round % 3)
				other.put(one.peek(1))
				one.peek(most)
				other.peek(otherMost)
			}
			one.all()
			other.peek(otherMost)
			newPair(t, most).all()
			other.all()
		}
	}
}

// P4.2: many bytes through a ring: none is lost, none comes twice, and all come in order, whatever is put and taken at once.
func TestManyBytes(t *testing.T) {
	for _, most := range []int{1, 2, 3, 7, 8, 64, 251, 1000, api.MaxRing} {
		r := made(t, most)
		put, taken := 0, 0
		for round := range 5000 { // the numbers that are put and taken have no common round, so that all pairs come in small rings
			put += r.Put(run(put, round%min(most+3, 2003)))
			if ahead := r.Peek(3); !bytes.Equal(ahead, run(taken, min(3, put-taken))) {
				t.Fatalf("ring for %d: behind %d bytes %q", most, taken, ahead)
			}
			out := r.Take(round % min(most+2, 1999))
			if !bytes.Equal(out, run(taken, len(out))) {
				t.Fatalf("ring for %d: behind %d bytes %.80q", most, taken, out)
			}
			taken += len(out)
			if r.Len() != put-taken || r.Room() != most-r.Len() {
				t.Fatalf("ring for %d, %d put and %d taken: Len %d, Room %d", most, put, taken, r.Len(), r.Room())
			}
		}
		rest := r.Take(most)
		if !bytes.Equal(rest, run(taken, put-taken)) || r.Len() != 0 || r.Room() != most {
			t.Fatalf("ring for %d: %d bytes at the end, want %d", most, len(rest), put-taken)
		}
		if put < max(2000, 20*most) {
			t.Fatalf("ring for %d: only %d bytes went through", most, put)
		}
	}
}

// P4.2: a text goes through a ring as it is, whoever puts as much as there is room for, and goes on with the rest.
func TestTextGoesThrough(t *testing.T) {
	text := run(0, 1000)
	for most := 1; most <= 40; most++ {
		for step := 1; step <= 40; step += 3 {
			r := made(t, most)
			var out []byte
			left := text
			for range len(text) + 1 { // at least one byte goes through each time
				left = left[r.Put(left):]
				out = append(out, r.Take(step)...)
			}
			if !bytes.Equal(out, text) || len(left) != 0 || r.Len() != 0 {
				t.Fatalf("ring for %d, %d at once: %d bytes of %d, or others", most, step, len(out), len(text))
			}
		}
	}
}

// P1, P4.1 and P4.2: every call answers and none panics, whatever calls there are: each two bytes are one.
func FuzzCalls(f *testing.F) {
	f.Add(4, []byte("\x00\x03\x02\x02\x00\x04\x01\x09"))
	f.Add(1, []byte("\x00\x01\x00\x01\x01\xff\x02\x80\x02\x01"))
	f.Add(0, []byte("\x00\x01"))
	f.Add(-1, []byte{})
	f.Add(api.MaxRing+1, []byte{})
	f.Add(300, []byte("\x00\xff\x00\xff\x02\x7f\x02\x7f\x00\xff\x01\x7f\x02\x7f"))
	f.Fuzz(func(t *testing.T, most int, calls []byte) {
		if most < 1 || most > api.MaxRing {
			if r, err := ring.New(most); r != nil || err != api.ErrRingSize {
				t.Fatalf("New(%d): %v, error %d", most, r, err)
			}
			return
		}
		p := newPair(t, most)
		for at := 0; at+1 < len(calls); at += 2 {
			switch calls[at] % 3 {
			case 0:
				p.put(run(at, int(calls[at+1])))
			case 1:
				p.peek(int(int8(calls[at+1])))
			case 2:
				p.take(int(int8(calls[at+1])))
			}
		}
		p.all()
	})
}
