package queue_test

import (
	"math"
	"testing"

	"pendentive/api"
)

// numbers are ops and codes: those that the document names, those round them, and such as are one but for bits that some number of bits or bytes doesn't hold.
var numbers = []int{
	0, 1, 2, 3, 7, 8, 9, 10, 11, 15, 16, 17, 127, 128, 255, 256, 257, 258, 999, 1000, 1001, 1002, 1003, 1005, 1006, 1007, 1008, 1009, 1011, 1015, 3000, 4999, 5000,
	32767, 32768, 65535, 65536, 65537, 1<<31 - 1, 1 << 31, 1 << 32, 1<<32 + 1, -1, -2, -128, -129, -256, -32769, -65537, -1 << 31, -1<<31 - 1, -1 << 32, math.MinInt, math.MinInt + 1, math.MaxInt - 1, math.MaxInt,
}

// datas are Data of no bytes, of one, of bytes that are no letters, and of many.
var datas = []string{"", "a", "\x00", "\xff\xfe\x80", "\xe2\x82", "\x03\xe8bye", "Hello", sample(0, 125), sample(1, 126), sample(2, 65535), sample(3, 65536), sample(4, 1<<20), sample(5, greatestBytes)}

// P14.1: events of every op and code, with Data of no bytes and of many, are told as they were put.
func TestEvents(t *testing.T) {
	p := newPair(t, 3, greatestBytes)
	for _, op := range numbers {
		for _, code := range numbers {
			for _, data := range datas[:7] {
				p.put(api.Event{Op: op, Code: code, Data: data})
				p.peek()
				p.take()
			}
		}
	}
	for i, data := range datas {
		for k, n := range numbers {
			if len(data) > 1<<16 && k > 2 {
				continue
			}
			p.put(api.Event{Op: n, Code: i, Data: data})
			p.put(api.Event{Op: i, Code: n})
			p.put(api.Event{Op: i + 1, Code: -i, Data: datas[i%7]})
			p.peek()
			p.rooms()
			p.all()
		}
	}
}

// P14.1: events that are alike are as many as were put; such as are all noughts wait as others do.
func TestAlike(t *testing.T) {
	for _, e := range []api.Event{{}, {Op: 1, Data: "a"}, {Op: 8, Code: 1005}, {Data: "\x00"}} {
		for n := range 6 {
			p := newPair(t, 5, 5)
			for range n {
				p.put(e)
			}
			for left := min(n, 5); left > 0; left-- {
				if got, is := p.take(); got != e || !is || p.q.Len() != left-1 {
					p.fatal("Take: %s, %t, want %s, true", told(got), is, told(e))
				}
			}
			p.all()
		}
	}
}

// P14.1: Peek and Take of queues without events: new ones, and such as were emptied.
func TestFirstOfNone(t *testing.T) {
	for _, ahead := range []int{0, 1, 2, 3, 4, 5, 100, 1024} {
		p := newPair(t, 1024, greatestBytes)
		for range 3 {
			for i := range ahead {
				p.put(event(i, i))
			}
			for range ahead {
				p.take()
			}
			for range 4 {
				if e, is := p.peek(); e != (api.Event{}) || is {
					p.fatal("Peek: %s, %t", told(e), is)
				}
				if e, is := p.take(); e != (api.Event{}) || is {
					p.fatal("Take: %s, %t", told(e), is)
				}
				p.rooms()
			}
		}
	}
}

// P14.1: Peek and Take of queues with one, and with many: the first one, and true, Len and Size behind each.
func TestFirst(t *testing.T) {
	for _, n := range []int{1, 2, 3, 4, 5, 7, 8, 9, 100, 511, 512, 513, 1023, 1024} {
		p := newPair(t, 1024, greatestBytes)
		size := 0
		for i := range n {
			p.put(event(i, 3*i))
			size += 3 * i
		}
		for i := range n {
			want := event(i, 3*i)
			if e, is := p.peek(); e != want || !is || p.q.Len() != n-i || p.q.Size() != size {
				p.fatal("Peek %d: %s, %t", i, told(e), is)
			}
			size -= 3 * i
			if e, is := p.take(); e != want || !is || p.q.Len() != n-i-1 || p.q.Size() != size {
				p.fatal("Take %d: %s, %t", i, told(e), is)
			}
		}
		p.all()
	}
}

// P14.1: Peek changes nothing, however often, and whatever is done behind it.
func TestPeekChangesNothing(t *testing.T) {
	everyState(t, func(fresh func() *pair) {
		p := fresh()
		for range 5 {
			p.peek()
		}
		p.rooms()
		p.all()
		p = fresh()
		for i := range 6 {
			p.peek()
			p.peek()
			p.put(event(100+i, i%2))
			p.peek()
			p.peek()
			p.take()
		}
		p.all()
	})
	p := filled(t, 1024, greatestBytes, 0, []int{5, 0, 7})
	for range 100_000 {
		p.peek()
	}
	p.all()
}

// P14.1: Take takes one alone, and those behind it stay, in every state of small queues.
func TestTake(t *testing.T) {
	everyState(t, func(fresh func() *pair) {
		for n := range 5 {
			p := fresh()
			for range n {
				p.take()
				p.rooms()
			}
			p.peek()
			for i := range p.count + 1 {
				p.put(event(200+i, i%2))
				p.peek()
			}
			p.all()
		}
	})
}
