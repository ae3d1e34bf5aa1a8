package queue_test

import (
	"math"
	"slices"
	"testing"

	"pendentive/api"
)

// filled is a queue in which events of these sizes wait, behind so many that were put and taken ahead of them.
func filled(t *testing.T, count, bytes, ahead int, sizes []int) *pair {
	t.Helper()
	p := newPair(t, count, bytes)
	for i := range ahead {
		p.put(event(500+i, i%min(bytes, 3)))
		p.take()
	}
	for i, n := range sizes {
		if !p.put(event(10+i, n)) {
			p.fatal("Put of event %d of %v: none", i, sizes)
		}
	}
	return p
}

// fillings calls f with all lists of sizes that a queue for so many, of so many bytes, may hold.
func fillings(count, bytes int, f func(sizes []int)) {
	var fill func(sizes []int, left int)
	fill = func(sizes []int, left int) {
		f(slices.Clone(sizes))
		if len(sizes) == count {
			return
		}
		for n := range left + 1 {
			fill(append(sizes, n), left-n)
		}
	}
	fill(nil, bytes)
}

// everyState calls try with every queue for up to three, of up to four bytes, in every state, with none and with some put and taken ahead.
func everyState(t *testing.T, try func(fresh func() *pair)) {
	t.Helper()
	for count := 1; count <= 3; count++ {
		for bytes := 1; bytes <= 4; bytes++ {
			fillings(count, bytes, func(sizes []int) {
				for ahead := range 4 {
					try(func() *pair { return filled(t, count, bytes, ahead, sizes) })
				}
			})
		}
	}
}

// P14.1: Room in queues for four, of ten bytes, that are empty, have some, are full by count, by bytes, and by both, written out.
func TestKnownRoom(t *testing.T) {
	for _, x := range []struct {
		sizes []int
		most  int // the greatest size for which there is room, -1: there is none
	}{
		{nil, 10}, {[]int{0}, 10}, {[]int{0, 0, 0}, 10}, {[]int{1}, 9}, {[]int{3}, 7}, {[]int{3, 4}, 3}, {[]int{3, 0, 4}, 3}, {[]int{9}, 1}, {[]int{4, 5}, 1},
		{[]int{0, 0, 0, 0}, -1}, {[]int{1, 1, 1, 1}, -1}, {[]int{1, 2, 3, 3}, -1}, {[]int{0, 0, 0, 9}, -1},
		{[]int{10}, 0}, {[]int{4, 6}, 0}, {[]int{0, 10}, 0}, {[]int{10, 0}, 0}, {[]int{10, 0, 0}, 0}, {[]int{1, 2, 7}, 0},
		{[]int{10, 0, 0, 0}, -1}, {[]int{1, 2, 3, 4}, -1}, {[]int{0, 0, 0, 10}, -1},
	} {
		p := filled(t, 4, 10, 0, x.sizes)
		for _, size := range []int{0, 1, 2, 3, 4, 5, 6, 7, 8, 9, 10, 11, 12, 20, 1 << 22, 1<<22 + 1, 1 << 32, 1<<32 + 1, math.MaxInt32, math.MaxInt - 10, math.MaxInt - 9, math.MaxInt - 1, math.MaxInt} {
			if got := p.q.Room(size); got != (size <= x.most) {
				t.Errorf("Room(%d) in a queue for 4, of 10 bytes, with %v: %t", size, x.sizes, got)
			}
		}
		for _, size := range []int{-1, -2, -9, -10, -11, -1 << 22, -1 << 32, -1<<32 + 1, math.MinInt32, math.MinInt, math.MinInt + 1, math.MinInt + 10} {
			if p.q.Room(size) {
				t.Errorf("Room(%d) in a queue for 4, of 10 bytes, with %v: true", size, x.sizes)
			}
		}
		p.rooms()
		p.all()
	}
}

// P14.1: Room of all sizes in every state of small queues.
func TestEveryRoom(t *testing.T) {
	everyState(t, func(fresh func() *pair) {
		p := fresh()
		for size := -6; size <= 10; size++ {
			p.room(size)
		}
		p.rooms()
		p.all()
		p.rooms()
	})
}

// P14.1: Room round the bounds of the greatest queue.
func TestGreatestRoom(t *testing.T) {
	p := newPair(t, api.MaxQueue, greatestBytes)
	p.rooms()
	for i := range api.MaxQueue {
		p.room(greatestBytes/api.MaxQueue - 1)
		p.put(event(i, greatestBytes/api.MaxQueue-1))
	}
	p.rooms()
	p.take()
	p.rooms()
	p.put(event(5000, greatestBytes-p.wantSize))
	p.rooms()
	p.take()
	p.rooms()
	p.all()
	p.put(event(5001, greatestBytes-1))
	p.rooms()
	p.put(event(5002, 1))
	p.rooms()
	p.put(event(5003, 0))
	p.rooms()
	p.all()
	p.rooms()
}

// P14.1: Put where there is room and where there is none, written out: what it answers, and what waits then.
func TestKnownPut(t *testing.T) {
	for _, x := range []struct {
		there []string
		put   string
		is    bool
	}{
		{nil, "", true}, {nil, "v", true}, {nil, "vwxyz", true}, {nil, "uvwxyz", false}, {nil, "vwxyzvwxyz", false},
		{[]string{""}, "", true}, {[]string{""}, "vwxyz", true}, {[]string{""}, "uvwxyz", false},
		{[]string{"ab"}, "", true}, {[]string{"ab"}, "xyz", true}, {[]string{"ab"}, "wxyz", false}, {[]string{"ab"}, "vwxyz", false},
		{[]string{"a", "bcd"}, "", true}, {[]string{"a", "bcd"}, "z", true}, {[]string{"a", "bcd"}, "yz", false},
		{[]string{"abcde"}, "", true}, {[]string{"abcde"}, "z", false}, {[]string{"abcde", ""}, "", true}, {[]string{"abcde", ""}, "z", false}, {[]string{"ab", "cde"}, "", true}, {[]string{"ab", "cde"}, "z", false},
		{[]string{"", "", ""}, "", false}, {[]string{"", "", ""}, "z", false}, {[]string{"a", "b", "c"}, "", false}, {[]string{"a", "b", "c"}, "yz", false},
		{[]string{"ab", "c", "de"}, "", false}, {[]string{"ab", "c", "de"}, "z", false}, {[]string{"", "abcde", ""}, "", false}, {[]string{"", "abcde", ""}, "z", false},
	} {
		p := newPair(t, 3, 5)
		var want []api.Event
		for i, data := range x.there {
			want = append(want, api.Event{Op: 1, Code: i, Data: data})
			p.put(want[i])
		}
		e := api.Event{Op: 2, Code: 9, Data: x.put}
		if x.is {
			want = append(want, e)
		}
		if got := p.put(e); got != x.is {
			t.Errorf("Put of %q behind %q: %t", x.put, x.there, got)
		}
		if !slices.Equal(p.want, want) {
			t.Errorf("Put of %q behind %q: by the test's own reckoning %d wait", x.put, x.there, len(p.want))
		}
		p.all()
	}
}

// P14.1: Put of all sizes in every state of small queues; where there is no room nothing changes, however often, and it is put once there is.
func TestEveryPut(t *testing.T) {
	everyState(t, func(fresh func() *pair) {
		for size := range 8 {
			p := fresh()
			is := p.put(event(100, size))
			p.peek()
			p.rooms()
			p.all()
			if is {
				continue
			}
			p = fresh()
			for range 3 {
				p.put(event(100, size))
				p.rooms()
				p.peek()
			}
			for range p.count {
				p.take()
				p.put(event(101, size))
				p.peek()
			}
			p.all()
		}
	})
}

// P14.1: Room answers what Put does.
func TestRoomTellsPut(t *testing.T) {
	everyState(t, func(fresh func() *pair) {
		for size := range 8 {
			p := fresh()
			room := p.room(size)
			if p.put(event(100, size)) != room {
				p.fatal("Put of %d bytes, other than Room told", size)
			}
			p.all()
		}
	})
}

// P14.1: where there is no room nothing changes, in queues that are full by count and by bytes, whatever comes, and long.
func TestPutFull(t *testing.T) {
	for _, x := range []struct{ count, bytes, n, size int }{
		{1, 1, 1, 1}, {1, 1, 1, 0}, {1, greatestBytes, 1, 0}, {1, greatestBytes, 1, greatestBytes}, {5, 100, 5, 20}, {5, 100, 5, 1}, {7, 100, 5, 20},
		{1024, 1, 1024, 0}, {1024, 1024, 1024, 1}, {1024, greatestBytes, 1024, 4096}, {1024, 1000, 1000, 1}, {1000, greatestBytes, 1000, 4000},
	} {
		p := newPair(t, x.count, x.bytes)
		for i := range x.n {
			p.put(event(i, x.size))
		}
		left := x.bytes - x.n*x.size
		for round := range 3 {
			for _, size := range []int{left + 1, left + 2, x.bytes + 1, greatestBytes + 1} {
				if p.put(event(5000+round, size)) {
					p.fatal("Put of %d bytes", size)
				}
				p.peek()
			}
			if x.n == x.count && (p.put(event(6000, 0)) || p.put(event(6001, left))) {
				p.fatal("Put of one more than there may be")
			}
		}
		p.rooms()
		p.all()
		p.rooms()
	}
}
