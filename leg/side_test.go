package leg_test

import (
	"bytes"
	"slices"
	"testing"
	"unicode/utf8"

	"pendentive/api"
	"pendentive/leg"
)

// side is one reckoned plainly by the chapters' words: whatever comes, all bytes that came are read anew.
type side struct {
	c      api.Config
	masked bool
	draw   uint32

	came  []byte
	heard int // items of what came
	read  reading

	ring, tail     []byte
	controls, rest []piece

	sent, got bool
	wrong     api.Errno
}

// piece is a frame: its first byte, its data as they are without a mask, and the mask that it came with.
type piece struct {
	first byte
	data  string
	key   string
}

// item is what one frame comes to: an event, or what is wrong.
type item struct {
	event api.Event
	wrong api.Errno
}

// reading is what all bytes that came come to.
type reading struct {
	items []item
	kept  int
}

func newSide(c api.Config, masked bool, draw uint32) *side {
	return &side{c: c, masked: masked, draw: draw}
}

func (s *side) Feed(b []byte) []api.Event {
	if s.got || s.wrong != 0 {
		return nil
	}
	s.came = append(s.came, b...)
	s.read = readAll(s.came, s.masked, s.c.Message)
	var told []api.Event
	for _, x := range s.read.items[s.heard:] {
		s.heard++
		switch {
		case x.wrong != 0:
			s.wrong = x.wrong
			s.ends(map[api.Errno]string{91: "\x03\xea", 92: "\x03\xf1", 100: "\x03\xea", 110: "\x03\xea", 111: "\x03\xef", 120: "\x03\xea", 121: "\x03\xf1", 122: "\x03\xef"}[x.wrong])
		case x.event.Op == 9:
			s.pong(x.event.Data)
		case x.event.Op == 8:
			told = append(told, x.event)
			s.got = true
			if x.event.Code == 1005 {
				s.ends("")
			} else {
				s.ends(string([]byte{byte(x.event.Code / 256), byte(x.event.Code % 256)}))
			}
		default:
			told = append(told, x.event)
		}
	}
	return told
}

func (s *side) Free() bool { return !s.sent && !s.got && s.wrong == 0 && len(s.rest) == 0 }

func (s *side) Send(e api.Event) bool {
	if !s.Free() || e.Op != 1 && e.Op != 2 || len(e.Data) > s.c.Message {
		return false
	}
	first := byte(e.Op)
	for data := e.Data; ; first = 0 {
		if len(data) <= s.c.Frame {
			s.rest = append(s.rest, piece{first: first + 128, data: data})
			break
		}
		s.rest = append(s.rest, piece{first: first, data: data[:s.c.Frame]})
		data = data[s.c.Frame:]
	}
	s.goOn()
	return true
}

func (s *side) Ping(data string) bool {
	if s.sent || s.got || s.wrong != 0 || len(data) > 125 {
		return false
	}
	s.controls = append(s.controls, piece{first: 137, data: data})
	s.goOn()
	return true
}

func (s *side) Close(code int, words string) bool {
	data := string([]byte{byte(code >> 8), byte(code)}) + words
	switch {
	case s.sent:
		return false
	case code == 0 && words == "":
		data = ""
	case !mayBeSent(code) || len(words) > 123 || !utf8.ValidString(words):
		return false
	}
	s.ends(data)
	return true
}

func (s *side) Peek(n int) []byte { return slices.Clone(s.ring[:max(0, min(n, len(s.ring)))]) }

func (s *side) Take(n int) []byte {
	out := s.Peek(n)
	s.ring = s.ring[len(out):]
	s.goOn()
	return out
}

func (s *side) Sent() bool       { return s.sent }
func (s *side) Got() bool        { return s.got }
func (s *side) Wrong() api.Errno { return s.wrong }
func (s *side) Kept() int        { return s.read.kept }

func (s *side) Quiet() bool {
	return len(s.ring) == 0 && len(s.tail) == 0 && len(s.controls) == 0 && len(s.rest) == 0
}

// pong is what a ping comes to.
func (s *side) pong(data string) {
	if s.sent {
		return
	}
	for i := range s.controls {
		if s.controls[i].first == 138 {
			s.controls[i].data = data
			return
		}
	}
	s.controls = append(s.controls, piece{first: 138, data: data})
	s.goOn()
}

// ends sends an end with these data, if none was sent.
func (s *side) ends(data string) {
	if s.sent {
		return
	}
	s.sent, s.rest = true, nil
	s.controls = append(s.controls, piece{first: 136, data: data})
	s.goOn()
}

// goOn lets bytes move on one by one, while there is room.
func (s *side) goOn() {
	for {
		for len(s.tail) > 0 && len(s.ring) < s.c.Out {
			s.ring, s.tail = append(s.ring, s.tail[0]), s.tail[1:]
		}
		var p piece
		switch {
		case len(s.tail) > 0:
			return
		case len(s.controls) > 0:
			p, s.controls = s.controls[0], s.controls[1:]
		case len(s.rest) > 0:
			p, s.rest = s.rest[0], s.rest[1:]
		default:
			return
		}
		if !s.masked {
			s.draw = after(s.draw)
			p.key = string([]byte{byte(s.draw >> 24), byte(s.draw >> 16), byte(s.draw >> 8), byte(s.draw)})
		}
		s.tail = []byte(wire(p))
	}
}

// after is the draw behind another one.
func after(draw uint32) uint32 { return uint32(uint64(draw)*1664525 + 1013904223) }

// mayBeSent is whether a code may.
func mayBeSent(code int) bool {
	return code >= 1000 && code <= 1003 || code >= 1007 && code <= 1011 || code >= 3000 && code <= 4999
}

// wire is a frame as bytes, masked by its key, if it has one.
func wire(p piece) string {
	out, n := []byte{p.first}, len(p.data)
	switch {
	case n < 126:
		out = append(out, byte(n))
	case n < 65536:
		out = append(out, 126, byte(n>>8), byte(n))
	default:
		out = append(out, 127, 0, 0, 0, 0, byte(n>>24), byte(n>>16), byte(n>>8), byte(n))
	}
	if p.key != "" {
		out[1] += 128
	}
	return string(out) + p.key + string(turned(p.data, p.key))
}

// turned is bytes as a mask turns them; the empty one leaves them.
func turned(data, key string) []byte {
	out := []byte(data)
	for i := range out {
		if key != "" {
			out[i] ^= key[i%4]
		}
	}
	return out
}

// unwire is the frame that bytes begin with, how many bytes it has (0: it isn't there to its end), and what is wrong with it.
func unwire(b []byte, masked bool, most int) (piece, int, api.Errno) {
	if len(b) == 0 {
		return piece{}, 0, 0
	}
	control := b[0]&8 != 0
	if !bytes.Contains([]byte{0, 1, 2, 128, 129, 130, 136, 137, 138}, b[:1]) {
		return piece{}, 0, 91
	}
	if len(b) == 1 {
		return piece{}, 0, 0
	}
	if b[1] >= 128 != masked {
		return piece{}, 0, 100
	}
	n, at := int(b[1]%128), 2
	if control && n > 125 {
		return piece{}, 0, 91
	}
	switch n {
	case 126:
		at = 4
	case 127:
		at = 10
		if len(b) > 2 && b[2] >= 128 || len(b) >= 8 && bytes.Equal(b[2:8], make([]byte, 6)) {
			return piece{}, 0, 91
		}
	}
	if len(b) < at {
		return piece{}, 0, 0
	}
	if at > 2 {
		n = 0
		for _, x := range b[2:at] {
			n = n<<8 + int(x)
		}
	}
	if at == 4 && n < 126 {
		return piece{}, 0, 91
	}
	if n > most {
		return piece{}, 0, 92
	}
	key := ""
	if masked {
		key = string(b[at:min(len(b), at+4)])
		at += 4
	}
	if len(b) < at+n {
		return piece{}, 0, 0
	}
	return piece{first: b[0], data: string(turned(string(b[at:at+n]), key)), key: key}, at + n, 0
}

// readAll is what bytes come to: the items of their frames, up to an end, or what is wrong, and how many bytes are kept.
func readAll(b []byte, masked bool, message int) reading {
	var out reading
	var frames []piece
	bound := message
	if bound < 125 {
		bound = 125
	}
	for {
		p, n, wrong := unwire(b, masked, bound)
		if wrong == 0 && n > 0 {
			frames, b = append(frames, p), b[n:]
			continue
		}
		if wrong == 0 {
			out.kept = len(b)
		}
		op, data := 0, ""
		for _, p := range frames {
			x := itemOf(p, &op, &data, message)
			if x != (item{}) {
				out.items = append(out.items, x)
			}
			if x.wrong != 0 || x.event.Op == 8 {
				return out
			}
		}
		if wrong != 0 {
			out.items = append(out.items, item{wrong: wrong})
		}
		out.kept += len(data)
		return out
	}
}

// itemOf is what a frame comes to behind a message's op and data so far (op 0: none is begun); none: it is one within a message.
func itemOf(p piece, op *int, data *string, message int) item {
	code := 1005
	switch kind := int(p.first % 16); {
	case kind == 8 && p.data == "":
		return item{event: api.Event{Op: 8, Code: code}}
	case kind == 8:
		if len(p.data) > 1 {
			code = int(p.data[0])*256 + int(p.data[1])
		}
		if !mayBeSent(code) {
			return item{wrong: 110}
		}
		if !utf8.ValidString(p.data[2:]) {
			return item{wrong: 111}
		}
		return item{event: api.Event{Op: 8, Code: code, Data: p.data[2:]}}
	case kind > 8:
		return item{event: api.Event{Op: kind, Data: p.data}}
	case (kind == 0) == (*op == 0):
		return item{wrong: 120}
	case kind > 0:
		*op = kind
	}
	if *data += p.data; len(*data) > message {
		return item{wrong: 121}
	}
	if *op == 1 && !rightSoFar(*data, p.first >= 128) {
		return item{wrong: 122}
	}
	if p.first < 128 {
		return item{}
	}
	whole := item{event: api.Event{Op: *op, Data: *data}}
	*op, *data = 0, ""
	return whole
}

// rightSoFar is whether bytes are letters, or the beginning of some, if they aren't the last ones.
func rightSoFar(s string, last bool) bool {
	for s != "" {
		r, n := utf8.DecodeRuneInString(s)
		if r == utf8.RuneError && n == 1 {
			return !last && !utf8.FullRuneInString(s)
		}
		s = s[n:]
	}
	return true
}

// sided is what a side can be asked, the program's and the reckoned one.
type sided interface {
	Feed([]byte) []api.Event
	Free() bool
	Send(api.Event) bool
	Ping(string) bool
	Close(int, string) bool
	Peek(int) []byte
	Take(int) []byte
	Sent() bool
	Got() bool
	Wrong() api.Errno
	Quiet() bool
	Kept() int
}

var _, _ sided = (*leg.Leg)(nil), (*side)(nil)

// stands is all that a side says of itself.
type stands struct {
	free, sent, got, quiet bool
	wrong                  api.Errno
	kept                   int
	out                    string
}

func standsOf(s sided) stands {
	return stands{free: s.Free(), sent: s.Sent(), got: s.Got(), quiet: s.Quiet(), wrong: s.Wrong(), kept: s.Kept(), out: string(s.Peek(1 << 17))}
}

// short is a text, or how it begins.
func short(s string) string {
	if len(s) > 60 {
		return s[:60] + ".."
	}
	return s
}

// shortly is how a side stands, for telling it.
func (s stands) shortly() stands {
	s.out = short(s.out)
	return s
}

// hold holds a side against the reckoned one.
func hold(t testing.TB, what string, l *leg.Leg, s *side) {
	t.Helper()
	if is, want := standsOf(l), standsOf(s); is != want {
		t.Fatalf("%s: stands %+v, want %+v", short(what), is.shortly(), want.shortly())
	}
}

// sameEvents holds events against those that are wanted.
func sameEvents(t testing.TB, what string, is, want []api.Event) {
	t.Helper()
	if !slices.Equal(is, want) {
		t.Fatalf("%s: told %d events %+v, want %d %+v", short(what), len(is), shortly(is), len(want), shortly(want))
	}
}

// shortly is events, or how they begin.
func shortly(l []api.Event) []api.Event {
	l = slices.Clone(l[:min(len(l), 4)])
	for i := range l {
		l[i].Data = short(l[i].Data)
	}
	return l
}
