package queue_test

import (
	"math"
	"math/rand/v2"
	"runtime"
	"slices"
	"testing"

	"pendentive/api"
	"pendentive/queue"
)

// P14.2: all short rows of acts, on queues for up to three, of up to three bytes.
func TestEveryRow(t *testing.T) {
	acts := []func(p *pair, at int){
		func(p *pair, at int) { p.put(event(at, 0)) },
		func(p *pair, at int) { p.put(event(at, 1)) },
		func(p *pair, at int) { p.put(event(at, 2)) },
		func(p *pair, at int) { p.take() },
		func(p *pair, at int) { p.peek() },
	}
	const long = 6
	rows := 1
	for range long {
		rows *= len(acts)
	}
	for count := 1; count <= 3; count++ {
		for bytes := 1; bytes <= 3; bytes++ {
			for row := range rows {
				p := newPair(t, count, bytes)
				for at := range long {
					acts[row%len(acts)](p, at)
					row /= len(acts)
				}
				p.room(1)
				p.all()
			}
		}
	}
}

// P14.2: all rows of puts and takes that are longer, where sizes don't matter.
func TestEveryLongRow(t *testing.T) {
	const long = 13
	for count := 1; count <= 4; count++ {
		for row := range 1 << long {
			p := newPair(t, count, count)
			for at := range long {
				if row>>at&1 == 0 {
					p.put(event(at, 1))
				} else {
					p.take()
				}
			}
			p.all()
		}
	}
}

// log is what came into a queue and what came out, each event once.
type log struct{ in, out []api.Event }

// check holds what came out against what came in.
func (l *log) check(p *pair) {
	p.t.Helper()
	if !slices.Equal(l.in, l.out) {
		p.fatal("%d came in and %d out, or others", len(l.in), len(l.out))
	}
}

// draw does acts that are drawn: of each ten so many put. Sizes are up to most.
func (l *log) draw(p *pair, r *rand.Rand, acts, puts, most int) {
	p.t.Helper()
	for range acts {
		number := len(l.in)
		switch kind := r.IntN(12); {
		case kind == 10:
			p.peek()
		case kind == 11:
			p.room(r.IntN(2*most+3) - 2)
		case kind < puts:
			if e := event(number, r.IntN(most+1)); p.put(e) {
				l.in = append(l.in, e)
			}
		default:
			if e, is := p.take(); is {
				l.out = append(l.out, e)
			}
		}
	}
}

// empty takes all that waits.
func (l *log) empty(p *pair) {
	p.t.Helper()
	for range p.count + 1 {
		if e, is := p.take(); is {
			l.out = append(l.out, e)
		}
	}
}

// bounds are those of queues on which long rows are played, and how long events are at most there.
var bounds = []struct{ count, bytes, most int }{
	{1, 1, 1}, {1, 7, 8}, {2, 5, 3}, {3, 1, 2}, {4, 10, 4}, {7, 100, 20}, {8, 64, 8}, {16, 16, 2}, {31, 1000, 70}, {100, 100, 1}, {100, greatestBytes, 50},
	{255, 300, 3}, {256, 2560, 20}, {1000, 1000, 2}, {1024, 1, 1}, {1024, 1024, 1}, {1024, 100_000, 150}, {1024, greatestBytes, 3000},
}

// P14.2: long rows of acts that are drawn, by turns filling and emptying: none is lost, none comes twice, all come in order.
func TestDrawnRows(t *testing.T) {
	for i, b := range bounds {
		r := rand.New(rand.NewPCG(14, uint64(i)))
		p, l := newPair(t, b.count, b.bytes), &log{}
		full := 0
		for range 8 {
			for _, puts := range []int{5, 9, 10, 7, 3, 5, 1, 6, 0} {
				l.draw(p, r, min(2*b.count+20, 700), puts, b.most)
				if !p.hasRoom(b.most) {
					full++
				}
			}
		}
		l.empty(p)
		l.check(p)
		if full == 0 || len(l.in) < 2*b.count {
			p.fatal("a row that doesn't try enough: %d events, %d times full", len(l.in), full)
		}
		p.all()
	}
}

// P14.2: queues that are filled and emptied many times, by count and by bytes, to the last one and but for some.
func TestFilledAndEmptied(t *testing.T) {
	for _, b := range bounds {
		for _, size := range []int{0, 1, max(1, b.bytes/b.count), max(1, b.bytes/(b.count+1))} {
			if b.count*size > 1<<20 {
				size = (1 << 20) / b.count
			}
			p, l := newPair(t, b.count, b.bytes), &log{}
			for round := range 12 {
				for range b.count + 2 {
					if e := event(len(l.in), size); p.put(e) {
						l.in = append(l.in, e)
					}
				}
				if p.room(size) {
					p.fatal("there is room for more")
				}
				for range max(1, b.count-round%4) {
					if e, is := p.take(); is {
						l.out = append(l.out, e)
					}
				}
			}
			l.empty(p)
			l.check(p)
			p.rooms()
		}
	}
}

// P14.2: a queue in which as many wait all the time goes on, however many come through.
func TestSteady(t *testing.T) {
	for _, waiting := range []int{1, 2, 3, 4, 5, 63, 64, 65, 500, 1023} {
		p, l := newPair(t, 1024, 10_000), &log{}
		for number := range 5*waiting + 3000 {
			e := event(number, number%10)
			if !p.put(e) {
				p.fatal("Put of event %d: none", number)
			}
			l.in = append(l.in, e)
			if len(p.want) > waiting {
				got, _ := p.take()
				l.out = append(l.out, got)
			}
		}
		l.empty(p)
		l.check(p)
	}
}

// P14.2: two queues by turns, of equal bounds and of others: neither minds the other one, by puts of the same event neither.
func TestByTurns(t *testing.T) {
	for i, a := range bounds[:11] {
		for k, b := range bounds[:11] {
			r := rand.New(rand.NewPCG(uint64(i), uint64(k)))
			one, other := newPair(t, a.count, a.bytes), newPair(t, b.count, b.bytes)
			in, out := &log{}, &log{}
			for round := range 60 {
				in.draw(one, r, r.IntN(6), 4+round%4, a.most)
				out.draw(other, r, r.IntN(6), 3+round%5, b.most)
				one.stands("the other queue's acts")
				one.peek()
				other.peek()
				e := event(round, r.IntN(3))
				if one.put(e) {
					in.in = append(in.in, e)
				}
				if other.put(e) {
					out.in = append(out.in, e)
				}
			}
			in.empty(one)
			other.stands("the other queue's emptying")
			out.empty(other)
			in.check(one)
			out.check(other)
		}
	}
}

// P14.2: what is taken from one queue is put into another one, as a session does with both its sides.
func TestThroughTwo(t *testing.T) {
	one, other, l := newPair(t, 5, 40), newPair(t, 3, 25), &log{}
	for number := 0; number < 3000; {
		for range 1 + number%4 {
			if e := event(number, number%23); one.put(e) {
				l.in = append(l.in, e)
				number++
			}
		}
		for range 1 + number%3 {
			if e, is := one.peek(); is && other.put(e) {
				one.take()
			}
		}
		for range 1 + number%5 {
			if e, is := other.take(); is {
				l.out = append(l.out, e)
			}
		}
	}
	for len(one.want) > 0 {
		l.empty(other)
		e, _ := one.take()
		other.put(e)
	}
	l.empty(other)
	l.check(other)
}

// P1: many acts on the greatest queue, as full as can be, in good time: what waits isn't made anew by each act.
func TestManyActs(t *testing.T) {
	const acts = 1_000_000
	q, _ := queue.New(api.MaxQueue, greatestBytes)
	before := allMade()
	for number := range acts {
		if !q.Put(api.Event{Op: 1, Code: number, Data: "abc"}) {
			t.Fatalf("Put of event %d: none", number)
		}
		if number < api.MaxQueue-1 {
			continue
		}
		if e, is := q.Take(); e != (api.Event{Op: 1, Code: number - api.MaxQueue + 1, Data: "abc"}) || !is {
			t.Fatalf("Take behind event %d: %s, %t", number, told(e), is)
		}
	}
	if made := allMade() - before; made > acts*1000 {
		t.Errorf("%d bytes of memory were made by %d acts", made, acts)
	}
}

// allMade is how many bytes of memory were made till now, those too that are free again.
func allMade() uint64 {
	var m runtime.MemStats
	runtime.ReadMemStats(&m)
	return m.TotalAlloc
}

// P1, P14.1 and P14.2: every call answers and none panics, whatever acts there are: each two bytes are one.
func FuzzActs(f *testing.F) {
	f.Add(2, 5, []byte("\x00\x03\x00\x02\x00\x01\x02\x00\x00\x01"))
	f.Add(1, 1, []byte("\x00\x01\x00\x00\x01\xff\x02\x80\x02\x01"))
	f.Add(0, 1, []byte{})
	f.Add(-1, math.MinInt, []byte{})
	f.Add(api.MaxQueue+1, 1, []byte{})
	f.Add(1, greatestBytes+1, []byte{})
	f.Add(300, 700, []byte("\x00\xff\x00\xff\x03\x7f\x02\x7f\x00\xff\x01\x7f\x02\x7f"))
	f.Fuzz(func(t *testing.T, count, bytes int, acts []byte) {
		if count < 1 || count > api.MaxQueue || bytes < 1 || bytes > greatestBytes {
			if q, err := queue.New(count, bytes); q != nil || err != 140 {
				t.Fatalf("New(%d, %d): %v, error %d", count, bytes, q, err)
			}
			return
		}
		p := newPair(t, count, bytes)
		for at := 0; at+1 < len(acts); at += 2 {
			switch n := int(acts[at+1]); acts[at] % 4 {
			case 0:
				p.put(event(at, n))
			case 1:
				p.peek()
			case 2:
				p.take()
			case 3:
				p.room(n - 100)
			}
		}
		p.rooms()
		p.all()
	})
}
