package queue_test

import (
	"runtime"
	"strings"
	"testing"
	"unsafe"
	"weak"

	"pendentive/api"
	"pendentive/queue"
)

// spoil changes the memory of what was handed out. A text of one byte may be memory that isn't anybody's own.
func spoil(e api.Event) {
	if len(e.Data) < 2 {
		return
	}
	b := unsafe.Slice(unsafe.StringData(e.Data), len(e.Data))
	for i := range b {
		b[i] ^= 0x55
	}
}

// some is a queue in which so many events wait, of two bytes and more, behind so many that were put and taken ahead.
func some(t *testing.T, ahead, n int) *pair {
	t.Helper()
	p := newPair(t, 1024, greatestBytes)
	for i := range ahead {
		p.put(event(1000+i, 2+i))
		p.take()
	}
	for i := range n {
		p.put(event(i, 2+3*i))
	}
	return p
}

// The rules: what Peek handed out is new memory: whatever is done to it, what waits stays, and so does another answer.
func TestPeekIsNew(t *testing.T) {
	for ahead := range 4 {
		for n := 1; n < 9; n++ {
			p := some(t, ahead, n)
			for range n {
				one, _ := p.peek()
				other, _ := p.peek()
				spoil(one)
				if other != p.want[0] {
					p.fatal("Peek: %s, by a change of another answer", told(other))
				}
				p.peek()
				spoil(other)
				taken, _ := p.take()
				spoil(taken)
				p.peek()
			}
			p.all()
		}
	}
}

// The rules: what was handed out stays as it was, whatever the queue does then, and what Take hands out shares no memory with what Peek did.
func TestAnswersStay(t *testing.T) {
	for ahead := range 4 {
		for n := 1; n < 9; n++ {
			p := some(t, ahead, n)
			want, _ := p.first()
			one, _ := p.peek()
			other, _ := p.peek()
			taken, _ := p.take()
			for i := range 20 {
				p.put(event(50+i, len(want.Data)))
				p.take()
			}
			if one != want || other != want || taken != want {
				p.fatal("%s, %s and %s, that were %s", told(one), told(other), told(taken), told(want))
			}
			spoil(one)
			if other != want || taken != want {
				p.fatal("%s and %s, that were %s, by a change of another answer", told(other), told(taken), told(want))
			}
			spoil(taken)
			if other != want {
				p.fatal("%s, that was %s, by a change of another answer", told(other), told(want))
			}
			p.all()
		}
	}
}

// The rules: what Take handed out is the queue's no more: whatever is done to it, what waits stays.
func TestTakenIsNew(t *testing.T) {
	for ahead := range 4 {
		for n := range 9 {
			p := some(t, ahead, n)
			for i := range n {
				e, _ := p.take()
				spoil(e)
				p.peek()
				p.put(event(60+i, 2+i))
			}
			p.all()
		}
	}
}

// The rules: the same event put twice, and into two queues, waits in memory of its own in each place.
func TestSameEvent(t *testing.T) {
	one, other := some(t, 0, 0), some(t, 1, 0)
	e := event(7, 20)
	for range 2 {
		one.put(e)
		other.put(e)
	}
	for range 2 {
		first, _ := one.take()
		spoil(first)
		second, _ := other.take()
		spoil(second)
	}
	one.all()
	other.all()
}

// The rules: a queue's own events may be put into it again, as they were told.
func TestOwnEvents(t *testing.T) {
	p := some(t, 2, 5)
	for range 50 {
		e, _ := p.peek()
		if !p.q.Put(e) {
			p.fatal("Put of %s: none", told(e))
		}
		p.want = append(p.want, api.Event{Op: e.Op, Code: e.Code, Data: strings.Clone(e.Data)})
		p.wantSize += len(e.Data)
		spoil(e)
		p.stands("Put")
		p.take()
	}
	p.all()
}

// The rules: Put of a piece of what is handed in keeps none of it, though it is a piece of no bytes, and leaves what lies round it.
func TestPutPieces(t *testing.T) {
	room := []byte(sample(3, 100))
	before := string(room)
	whole := unsafe.String(&room[0], len(room))
	p := newPair(t, 1024, greatestBytes)
	for from := 0; from < 100; from += 7 {
		for to := from; to <= 100; to += 9 {
			if !p.q.Put(api.Event{Op: 2, Data: whole[from:to]}) {
				p.fatal("Put of %d bytes: none", to-from)
			}
			p.want = append(p.want, api.Event{Op: 2, Data: before[from:to]})
			p.wantSize += to - from
		}
	}
	p.stands("Put")
	if string(room) != before {
		p.fatal("what was handed in is changed")
	}
	clear(room)
	for len(p.want) > 0 {
		p.peek()
		e, _ := p.take()
		spoil(e)
	}
	if string(room) != strings.Repeat("\x00", 100) {
		p.fatal("what was handed in is changed later, or was handed out")
	}
}

// inUse is how many bytes of memory are in use.
func inUse() int {
	runtime.GC()
	runtime.GC()
	var m runtime.MemStats
	runtime.ReadMemStats(&m)
	return int(m.HeapAlloc)
}

// What is kept is no more than what waits: not what was taken, though others wait behind it, nor what had no room.
func TestKeepsNoMore(t *testing.T) {
	const long = greatestBytes / 4
	for behind := 1; behind < 6; behind++ {
		for later := range 3 {
			before := inUse()
			var all []*queue.Queue
			for range 4 {
				q, _ := queue.New(api.MaxQueue, greatestBytes)
				all = append(all, q)
				for i := range 3 {
					q.Put(event(i, long))
				}
				for i := range behind {
					q.Put(event(i, 1))
				}
				q.Put(event(4, greatestBytes))
				for range 3 {
					q.Peek()
					q.Take()
				}
				q.Put(event(5, greatestBytes))
				for i := range later {
					q.Put(event(i, 1))
				}
			}
			if more := inUse() - before; more > long/2 {
				t.Errorf("%d bytes are kept for %d queues with %d bytes each", more, len(all), behind+later)
			}
			for _, q := range all {
				if q.Len() != behind+later || q.Size() != behind+later {
					t.Errorf("Len %d, Size %d, want %d", q.Len(), q.Size(), behind+later)
				}
			}
		}
	}
}

// What is kept is no more than what waits, and a little for each queue, behind all short rows of puts of long and short events, and takes.
func TestKeepsNoMoreInRows(t *testing.T) {
	const long, steps = 8192, 7
	rows := 1
	for range steps {
		rows *= 3
	}
	before := inUse()
	var all []*queue.Queue
	var taken []weak.Pointer[byte] // to the Data of those that nobody has any more
	for row := range rows {
		q, _ := queue.New(api.MaxQueue, greatestBytes)
		all = append(all, q)
		for range steps {
			switch row % 3 {
			case 0:
				q.Put(event(1, long))
			case 1:
				q.Put(event(2, 1))
			case 2:
				if e, is := q.Take(); is && len(e.Data) == long {
					taken = append(taken, weak.Make(unsafe.StringData(e.Data)))
				}
			}
			row /= 3
		}
	}
	more, waiting, kept := inUse()-before, 0, 0
	for _, p := range taken {
		if p.Value() != nil {
			kept++
		}
	}
	for _, q := range all {
		waiting += q.Size()
	}
	if more > waiting+rows*600 || kept > 0 {
		t.Errorf("%d bytes are kept for %d queues in which %d wait, and %d that were taken of %d", more, rows, waiting, kept, len(taken))
	}
}

// What is kept of a queue that was full and is empty is no more than of a new one, or little more.
func TestEmptyKeepsNothing(t *testing.T) {
	before := inUse()
	var all []*queue.Queue
	for range 100 {
		q, _ := queue.New(api.MaxQueue, greatestBytes)
		all = append(all, q)
		for i := range api.MaxQueue {
			q.Put(api.Event{Op: 1, Code: i, Data: "abc"})
		}
		for range api.MaxQueue {
			q.Take()
		}
	}
	if more := inUse() - before; more > 100*10_000 {
		t.Errorf("%d bytes are kept for %d empty queues", more, len(all))
	}
	for _, q := range all {
		if q.Len() != 0 || q.Size() != 0 {
			t.Errorf("Len %d, Size %d, want 0, 0", q.Len(), q.Size())
		}
	}
}
