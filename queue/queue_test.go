package queue_test

import (
	"fmt"
	"math"
	"testing"
	"unsafe"

	"pendentive/api"
	"pendentive/queue"
)

// greatestBytes is how many bytes may wait in a queue at most.
const greatestBytes = 1 << 22

// sample is n bytes of all values, in an order that no power of two repeats, which begin by a value of from.
func sample(from, n int) string {
	out := make([]byte, n)
	for i := range out {
		out[i] = byte(from*59 + i*167 + i/251 + 72)
	}
	return string(out)
}

// event is one of n bytes, that no other number's is like.
func event(number, n int) api.Event {
	return api.Event{Op: 1 + number%2, Code: number, Data: sample(number, n)}
}

// told is an event as a line, its Data cut.
func told(e api.Event) string {
	return fmt.Sprintf("{Op %d, Code %d, %d bytes %.12q}", e.Op, e.Code, len(e.Data), e.Data)
}

// hand is an event as it is handed in: its Data in a room of its own, with more behind. Of spoil the room is changed, which tells whether it was the same till then.
func hand(e api.Event) (handed api.Event, spoil func() bool) {
	room := []byte(e.Data + "behind")
	handed = e
	handed.Data = unsafe.String(&room[0], len(e.Data))
	return handed, func() bool {
		same := string(room) == e.Data+"behind"
		for i := range room {
			room[i] ^= 0x55
		}
		return same
	}
}

// pair is a queue, and what it ought to hold, kept in the plainest way.
type pair struct {
	t            *testing.T
	q            *queue.Queue
	count, bytes int
	want         []api.Event
	wantSize     int
	acts         int
}

func newPair(t *testing.T, count, bytes int) *pair {
	t.Helper()
	q, err := queue.New(count, bytes)
	if err != api.OK || q == nil {
		t.Fatalf("New(%d, %d): %v, error %d", count, bytes, q, err)
	}
	p := &pair{t: t, q: q, count: count, bytes: bytes}
	p.stands("New")
	return p
}

// fatal tells what is wrong, and where.
func (p *pair) fatal(how string, a ...any) {
	p.t.Helper()
	p.t.Fatalf("queue for %d, of %d bytes, at act %d, with %d, of %d bytes: %s", p.count, p.bytes, p.acts, len(p.want), p.wantSize, fmt.Sprintf(how, a...))
}

// stands holds Len and Size against what waits, and both bounds.
func (p *pair) stands(how string) {
	p.t.Helper()
	p.acts++
	if p.q.Len() != len(p.want) || p.q.Size() != p.wantSize {
		p.fatal("behind %s Len %d and Size %d", how, p.q.Len(), p.q.Size())
	}
	if n, size := p.q.Len(), p.q.Size(); n < 0 || n > p.count || size < 0 || size > p.bytes {
		p.fatal("behind %s a bound is passed", how)
	}
}

// hasRoom is what Room ought to be: by numbers that no sum is above.
func (p *pair) hasRoom(size int) bool {
	if len(p.want) >= p.count || size < 0 || size > p.bytes {
		return false
	}
	return uint64(size)+uint64(p.wantSize) <= uint64(p.bytes)
}

func (p *pair) room(size int) bool {
	p.t.Helper()
	want := p.hasRoom(size)
	if got := p.q.Room(size); got != want {
		p.fatal("Room(%d): %t", size, got)
	}
	p.stands("Room")
	return want
}

// put puts an event whose Data is changed in its memory then, so that none of it can be kept.
func (p *pair) put(e api.Event) bool {
	p.t.Helper()
	want := p.hasRoom(len(e.Data))
	handed, spoil := hand(e)
	if got := p.q.Put(handed); got != want {
		p.fatal("Put of %s: %t", told(e), got)
	}
	if !spoil() {
		p.fatal("Put of %s: what was handed in is changed", told(e))
	}
	if want {
		p.want = append(p.want, e)
		p.wantSize += len(e.Data)
	}
	p.stands("Put")
	return want
}

// first is what Peek and Take ought to answer.
func (p *pair) first() (api.Event, bool) {
	if len(p.want) == 0 {
		return api.Event{}, false
	}
	return p.want[0], true
}

func (p *pair) peek() (api.Event, bool) {
	p.t.Helper()
	want, there := p.first()
	got, is := p.q.Peek()
	if got != want || is != there {
		p.fatal("Peek: %s, %t, want %s, %t", told(got), is, told(want), there)
	}
	p.stands("Peek")
	return got, is
}

func (p *pair) take() (api.Event, bool) {
	p.t.Helper()
	want, there := p.first()
	got, is := p.q.Take()
	if got != want || is != there {
		p.fatal("Take: %s, %t, want %s, %t", told(got), is, told(want), there)
	}
	if there {
		p.want = p.want[1:]
		p.wantSize -= len(want.Data)
	}
	p.stands("Take")
	return got, is
}

// sizes are those that Room is asked for: round noughts, what is left, what waits, and the bound, and the outermost ones.
func (p *pair) sizes() []int {
	left := p.bytes - p.wantSize
	return []int{
		0, 1, 2, -1, -2, left - 1, left, left + 1, p.wantSize, p.wantSize + 1, p.bytes - 1, p.bytes, p.bytes + 1, -left, -p.bytes, -p.bytes - 1,
		greatestBytes, greatestBytes + 1, math.MaxInt32, math.MinInt32, 1 << 32, 1<<32 + 1, -1 << 32, -1<<32 + 1,
		math.MinInt, math.MinInt + 1, math.MinInt + p.bytes, math.MinInt + left, math.MaxInt, math.MaxInt - 1, math.MaxInt - p.wantSize, math.MaxInt - p.wantSize + 1,
	}
}

// rooms asks for all of them, twice: asking changes nothing.
func (p *pair) rooms() {
	p.t.Helper()
	for range 2 {
		for _, size := range p.sizes() {
			p.room(size)
		}
	}
}

// all asks for all that waits, and for one more.
func (p *pair) all() {
	p.t.Helper()
	for range len(p.want) + 1 {
		p.peek()
		p.take()
	}
	p.peek()
	p.room(p.bytes)
}

// counts are those that may be, and that may not be.
var counts = []struct {
	n   int
	may bool
}{
	{0, false}, {1, true}, {2, true}, {3, true}, {255, true}, {256, true}, {257, true}, {1023, true}, {1024, true}, {1025, false}, {1026, false}, {2048, false},
	{-1, false}, {-2, false}, {-1023, false}, {-1024, false}, {-1025, false}, {1<<16 + 1, false}, {1 << 22, false}, {1 << 32, false}, {1<<32 + 1, false}, {1<<32 + 1024, false},
	{-1 << 32, false}, {-1<<32 + 1, false}, {math.MinInt32, false}, {math.MaxInt32, false}, {math.MinInt, false}, {math.MinInt + 1, false}, {math.MinInt + 1024, false}, {math.MaxInt - 1, false}, {math.MaxInt, false},
}

// allBytes are those that may be, and that may not be.
var allBytes = []struct {
	n   int
	may bool
}{
	{0, false}, {1, true}, {2, true}, {3, true}, {255, true}, {256, true}, {1024, true}, {1025, true}, {65535, true}, {65536, true}, {65537, true}, {1<<22 - 1, true}, {1 << 22, true}, {1<<22 + 1, false}, {1<<22 + 2, false}, {1 << 23, false},
	{-1, false}, {-2, false}, {-1024, false}, {-1 << 22, false}, {-1<<22 - 1, false}, {1 << 32, false}, {1<<32 + 1, false}, {1<<32 + 1<<22, false},
	{-1 << 32, false}, {-1<<32 + 1, false}, {math.MinInt32, false}, {math.MaxInt32, false}, {math.MinInt, false}, {math.MinInt + 1, false}, {math.MinInt + 1<<22, false}, {math.MaxInt - 1, false}, {math.MaxInt, false},
}

// P14.1 and P1: New of all counts, each with all bytes: a queue without events, or ErrQueueSize, and none.
func TestNew(t *testing.T) {
	for _, count := range counts {
		for _, bytes := range allBytes {
			if count.may && bytes.may {
				p := newPair(t, count.n, bytes.n)
				p.peek()
				p.take()
				p.rooms()
				continue
			}
			if q, err := queue.New(count.n, bytes.n); q != nil || err != 140 {
				t.Errorf("New(%d, %d): %v, error %d, want none, 140", count.n, bytes.n, q, err)
			}
		}
	}
}

// P14.1: the bounds that New is told are those that hold: just so many events, and just so many bytes.
func TestNewBounds(t *testing.T) {
	for _, count := range counts {
		for _, bytes := range allBytes {
			if !count.may || !bytes.may {
				continue
			}
			p := newPair(t, count.n, bytes.n)
			for i := range count.n {
				if !p.put(event(i, 0)) {
					p.fatal("Put of event %d: none", i)
				}
			}
			if p.put(event(1, 0)) || p.put(event(2, 1)) {
				p.fatal("one more than there may be")
			}
			p.all()
			if p.put(event(3, bytes.n+1)) || !p.put(event(4, bytes.n)) || p.put(event(5, 1)) || p.put(event(6, 0)) != (count.n > 1) {
				p.fatal("other bytes than there may be")
			}
			p.all()
		}
	}
}

// The chapter's example.
func TestExample(t *testing.T) {
	abc, de, f := api.Event{Op: 1, Data: "abc"}, api.Event{Op: 1, Data: "de"}, api.Event{Op: 2, Data: "f"}
	q, err := queue.New(2, 5)
	if err != 0 {
		t.Fatalf("New: error %d", err)
	}
	if !q.Put(abc) || !q.Put(de) || q.Len() != 2 || q.Size() != 5 {
		t.Fatalf("Put of abc and de: Len %d, Size %d", q.Len(), q.Size())
	}
	if q.Room(1) || q.Put(f) || q.Len() != 2 || q.Size() != 5 {
		t.Fatalf("Put of f: it has room, or Len %d, Size %d", q.Len(), q.Size())
	}
	if e, is := q.Take(); e != abc || !is {
		t.Fatalf("Take: %s, %t", told(e), is)
	}
	if !q.Room(1) || !q.Put(f) || q.Len() != 2 || q.Size() != 3 {
		t.Fatalf("Put of f behind Take: it has no room, or Len %d, Size %d", q.Len(), q.Size())
	}
	for _, want := range []api.Event{de, f, {}} {
		if e, is := q.Take(); e != want || is != (want != api.Event{}) {
			t.Fatalf("Take: %s, %t, want %s", told(e), is, told(want))
		}
	}
	if q.Len() != 0 || q.Size() != 0 {
		t.Fatalf("at the end: Len %d, Size %d", q.Len(), q.Size())
	}
}

// The rules: the numbers of what is told are the document's.
func TestNumbers(t *testing.T) {
	if api.ErrQueueSize != 140 || api.MaxQueue != 1024 || api.OK != 0 {
		t.Error("the tests' numbers aren't the document's")
	}
}
