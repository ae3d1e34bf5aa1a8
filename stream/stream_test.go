package stream_test

import (
	"bytes"
	"fmt"
	"math"
	"slices"
	"testing"

	"pendentive/api"
	"pendentive/frame"
	"pendentive/stream"
)

// keys are masks of noughts, of 255s, and of bytes that are all different.
var keys = [][4]byte{{}, {255, 255, 255, 255}, {0x37, 0xfa, 0x21, 0x3d}}

// openings are the first bytes that a frame can have.
var openings = []byte{0, 1, 2, 128, 129, 130, 136, 137, 138}

// boths are streams of masked frames, and of others.
var boths = []bool{false, true}

// sample is Data of all values, in an order that no power of two repeats.
func sample(n int) string {
	out := make([]byte, n)
	for i := range out {
		out[i] = byte(i*167 + i/251 + 72)
	}
	return string(out)
}

func made(t *testing.T, masked bool, most int) *stream.Stream {
	t.Helper()
	s, err := stream.New(masked, most)
	if err != api.OK || s == nil {
		t.Fatalf("New(%t, %d): %v, error %d", masked, most, s, err)
	}
	return s
}

// dress is a frame of that op, masked or not, with a mask that its Data's length chooses.
func dress(masked, fin bool, op int, data string) api.Frame {
	f := api.Frame{Fin: fin, Op: op, Masked: masked, Data: data}
	if masked {
		f.Key = keys[(len(data)+op+2)%len(keys)]
	}
	return f
}

// put is a frame's bytes.
func put(t *testing.T, f api.Frame) []byte {
	t.Helper()
	b, err := frame.Put(f)
	if err != api.OK {
		t.Fatalf("Put of a frame of op %d with %d bytes: error %d", f.Op, len(f.Data), err)
	}
	return b
}

// second is a frame's second byte, masked or not.
func second(masked bool, length int) byte {
	if masked {
		return byte(length + 128)
	}
	return byte(length)
}

// story is all bytes that come to a stream, and what they must come to: the frames, and how many bytes came when each one's last byte was there; what is wrong at the end, and how many bytes came when that was known.
type story struct {
	masked bool
	most   int
	b      []byte
	frames []api.Frame
	ends   []int
	err    api.Errno
	known  int
}

// right is a story of frames that are right.
func right(t *testing.T, masked bool, most int, frames ...api.Frame) story {
	t.Helper()
	s := story{masked: masked, most: most}
	for _, f := range frames {
		s.b = append(s.b, put(t, f)...)
		s.frames = append(s.frames, f)
		s.ends = append(s.ends, len(s.b))
	}
	return s
}

// part is a story, and behind it the first n bytes of a frame.
func (s story) part(t *testing.T, f api.Frame, n int) story {
	t.Helper()
	s.b = append(bytes.Clone(s.b), put(t, f)[:n]...)
	return s
}

// wrong is a story, and behind it bytes that are wrong, which the first known of them tell, and no fewer.
func (s story) wrong(b string, known int, err api.Errno) story {
	s.err, s.known = err, len(s.b)+known
	s.b = append(bytes.Clone(s.b), b...)
	return s
}

// at is what a story comes to, once n bytes came: how many frames, what is wrong, and how many bytes of a part.
func (s story) at(n int) (int, api.Errno, int) {
	count, found := slices.BinarySearch(s.ends, n)
	if found {
		count++
	}
	if s.err != api.OK && n >= s.known {
		return count, s.err, 0
	}
	if count > 0 {
		n -= s.ends[count-1]
	}
	return count, api.OK, n
}

func (s story) String() string {
	return fmt.Sprintf("%d bytes %.40x, masked %t, at most %d", len(s.b), s.b, s.masked, s.most)
}

// play is a stream to which a story's bytes come.
type play struct {
	story
	t     *testing.T
	s     *stream.Stream
	from  int // bytes that came
	count int // frames that were told
	// What was handed in last, and what it was changed to then.
	room, spoiled []byte
}

func (s story) play(t *testing.T) *play {
	t.Helper()
	p := &play{story: s, t: t, s: made(t, s.masked, s.most)}
	p.stands("New", api.OK, 0)
	return p
}

// stands holds Err and Part against what they must be, and asks twice: asking changes nothing.
func (p *play) stands(how string, err api.Errno, part int) {
	p.t.Helper()
	for range 2 {
		if p.s.Err() != err || p.s.Part() != part {
			p.t.Fatalf("%v, behind %s to %d: Err %d and Part %d, want %d and %d", p.story, how, p.from, p.s.Err(), p.s.Part(), err, part)
		}
	}
}

// to feeds what comes up to a place, holds the answer against what it must be, and spoils what was handed in, its spare room included, and the list that was handed out.
func (p *play) to(place int) {
	p.t.Helper()
	count, err, part := p.at(place)
	piece := p.b[p.from:place]
	room := append(bytes.Clone(piece), "\x81\x00\x81\x80abcd"...)
	got, gotErr := p.s.Feed(room[:len(piece)])
	if gotErr != err || !slices.Equal(got, p.frames[p.count:count]) {
		p.t.Fatalf("%v: bytes %d to %d: %d frames, error %d, want %d, error %d, or others", p.story, p.from, place, len(got), gotErr, count-p.count, err)
	}
	if string(room) != string(piece)+"\x81\x00\x81\x80abcd" || !bytes.Equal(p.room, p.spoiled) {
		p.t.Fatalf("%v: bytes %d to %d: what was handed in is changed", p.story, p.from, place)
	}
	p.from, p.count = place, count
	p.stands("Feed", err, part)
	spoil(room)
	p.room, p.spoiled = room, bytes.Clone(room)
	got = got[:cap(got)]
	for i := range got {
		got[i] = api.Frame{Op: 77, Data: "another"}
	}
}

// end feeds all that is left, and then what tells whether the stream stands as it must: no bytes, and behind an error more of them.
func (p *play) end() {
	p.t.Helper()
	p.to(len(p.b))
	p.to(len(p.b))
	_, err, part := p.at(len(p.b))
	for _, b := range [][]byte{nil, {}, make([]byte, 0, 9), []byte("\x81\x00")[:0], []byte("\x81\x00")[2:]} {
		p.rest(b, err)
		p.stands("Feed of nothing", err, part)
	}
	if err == api.OK {
		return
	}
	for _, b := range []string{"x", "\x81", "\x81\x00", "\x81\x80abcd", "\x81\x05Hello\x89\x00", "\xff\xff", "\x81\x80\x81\x00\x81\x80", sample(300)} {
		p.rest([]byte(b), err)
		p.stands("an error", err, 0)
	}
}

// rest feeds what must come to no frame, and to that error.
func (p *play) rest(b []byte, err api.Errno) {
	p.t.Helper()
	if got, gotErr := p.s.Feed(b); len(got) != 0 || gotErr != err {
		p.t.Fatalf("%v, then %x: %d frames, error %d, want none, error %d", p.story, b, len(got), gotErr, err)
	}
}

// cut plays a story, cut at these places.
func (s story) cut(t *testing.T, places ...int) {
	t.Helper()
	p := s.play(t)
	for _, place := range places {
		p.to(place)
	}
	p.end()
}

// everyCut plays a story in one piece, byte by byte, in pieces of some sizes, and cut at each place; a short one, cut at each two places.
func (s story) everyCut(t *testing.T) {
	t.Helper()
	s.cut(t)
	for step := 1; step <= min(9, len(s.b)); step++ {
		var places []int
		for place := step; place < len(s.b); place += step {
			places = append(places, place)
		}
		s.cut(t, places...)
	}
	for one := range len(s.b) + 1 {
		s.cut(t, one)
		for other := one; other <= len(s.b) && len(s.b) <= 40; other++ {
			s.cut(t, one, other)
		}
	}
}

// spoil changes bytes.
func spoil(b []byte) {
	for i := range b {
		b[i] ^= 0xff
	}
}

// P10.1 and P1: New with bounds that may be, and with others: ErrStreamSize, and no stream.
func TestNew(t *testing.T) {
	for _, masked := range boths {
		for _, most := range []int{125, 126, 127, 128, 255, 256, 1000, 32768, 65534, 65535, 65536} {
			s := made(t, masked, most)
			if s.Err() != api.OK || s.Part() != 0 {
				t.Errorf("New(%t, %d): Err %d, Part %d", masked, most, s.Err(), s.Part())
			}
		}
		for _, most := range []int{math.MinInt, math.MinInt + 125, math.MinInt + 126, math.MinInt32, -65536, -126, -125, -1, 0, 1, 2, 123, 124, 65537, 65538, 65536 + 125, 1 << 17, math.MaxInt32, 1<<32 + 125, 1<<32 + 65536, 1 << 40, math.MaxInt - 1, math.MaxInt} {
			if s, err := stream.New(masked, most); s != nil || err != api.ErrStreamSize {
				t.Errorf("New(%t, %d): %v, error %d", masked, most, s, err)
			}
		}
	}
}

// P10.1 and P10.2: the chapter's example, piece by piece.
func TestExample(t *testing.T) {
	s := made(t, false, 125)
	for i, x := range []struct {
		piece  string
		frames []api.Frame
		part   int
	}{{"\x81", nil, 1}, {"\x02H", nil, 3}, {"i", []api.Frame{{Fin: true, Op: api.OpText, Data: "Hi"}}, 0}} {
		got, err := s.Feed([]byte(x.piece))
		if err != api.OK || !slices.Equal(got, x.frames) || s.Err() != api.OK || s.Part() != x.part {
			t.Errorf("piece %d: %#v, error %d, Part %d", i, got, err, s.Part())
		}
	}
}

// P10.1 and P10.2: answers that are written out.
func TestKnownFeeds(t *testing.T) {
	key := [4]byte{0x37, 0xfa, 0x21, 0x3d}
	hello := api.Frame{Fin: true, Op: 1, Data: "Hello"}
	masked := api.Frame{Fin: true, Op: 1, Masked: true, Key: key, Data: "Hello"}
	ping := api.Frame{Fin: true, Op: 9}
	for _, x := range []struct {
		masked bool
		b      string
		frames []api.Frame
		err    api.Errno
		part   int
	}{
		{false, "", nil, 0, 0},
		{false, "\x81", nil, 0, 1},
		{false, "\x81\x05Hell", nil, 0, 6},
		{false, "\x81\x05Hello", []api.Frame{hello}, 0, 0},
		{false, "\x81\x05Hello\x89", []api.Frame{hello}, 0, 1},
		{false, "\x81\x05Hello\x89\x00\x81\x05Hello", []api.Frame{hello, ping, hello}, 0, 0},
		{false, "\x01\x02He\x89\x00\x80\x03llo\x8a\x02o", []api.Frame{{Op: 1, Data: "He"}, ping, {Fin: true, Data: "llo"}}, 0, 3},
		{false, "\x81\x7e\x00", nil, 0, 3},
		{false, "\x81\x7f\x00\x00\x00\x00\x00", nil, 0, 7},
		{true, "\x81\x85\x37\xfa\x21\x3d\x7f\x9f\x4d\x51\x58", []api.Frame{masked}, 0, 0},
		{true, "\x81\x85\x37\xfa\x21\x3d\x7f\x9f\x4d\x51\x58\x89\x80\x01", []api.Frame{masked}, 0, 3},
		{true, "\x88\x82\x37\xfa\x21\x3d\x34\x12", []api.Frame{{Fin: true, Op: 8, Masked: true, Key: key, Data: "\x03\xe8"}}, 0, 0},
		{false, "\x83", nil, api.ErrFrameForm, 0},
		{false, "\x81\x05Hello\x83", []api.Frame{hello}, api.ErrFrameForm, 0},
		{true, "\x83\x05", nil, api.ErrFrameForm, 0},
		{false, "\x83\x85", nil, api.ErrFrameForm, 0},
		{false, "\x09\x80", nil, api.ErrFrameForm, 0},
		{false, "\x81\x85", nil, api.ErrStreamMask, 0},
		{true, "\x81\x05", nil, api.ErrStreamMask, 0},
		{true, "\x81\x05Hello", nil, api.ErrStreamMask, 0},
		{false, "\x81\x05Hello\x81\x85", []api.Frame{hello}, api.ErrStreamMask, 0},
		{true, "\x89\x7e", nil, api.ErrStreamMask, 0},
		{false, "\x89\xfe", nil, api.ErrStreamMask, 0},
		{true, "\x81\x7e\x00\x05", nil, api.ErrStreamMask, 0},
		{true, "\x81\x7e\x00\x7e", nil, api.ErrStreamMask, 0},
		{false, "\x89\x7e", nil, api.ErrFrameForm, 0},
		{true, "\x89\xfe", nil, api.ErrFrameForm, 0},
		{false, "\x81\x7e\x00\x7d", nil, api.ErrFrameForm, 0},
		{false, "\x81\x7e\x00\x7e", nil, api.ErrFrameLong, 0},
		{true, "\x81\xfe\x00\x7e", nil, api.ErrFrameLong, 0},
		{false, "\x81\x05Hello\x89\x00\x81\x7f\x7f\xff\xff\xff\xff\xff\xff\xff", []api.Frame{hello, ping}, api.ErrFrameLong, 0},
		{false, "\x81\x7f\x80", nil, api.ErrFrameForm, 0},
		{false, "\x89\x00\x81\x85\x81\x05Hello", []api.Frame{ping}, api.ErrStreamMask, 0},
	} {
		s := made(t, x.masked, 125)
		got, err := s.Feed([]byte(x.b))
		if !slices.Equal(got, x.frames) || err != x.err || s.Err() != x.err || s.Part() != x.part {
			t.Errorf("Feed of %x, masked %t: %#v, error %d, Err %d, Part %d", x.b, x.masked, got, err, s.Err(), s.Part())
		}
	}
}
