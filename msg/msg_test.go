package msg_test

import (
	"fmt"
	"math"
	"slices"
	"strings"
	"testing"
	"unicode/utf8"
	"unsafe"

	"pendentive/api"
	"pendentive/msg"
)

// told is what a frame must come to, and how the machine must stand then.
type told struct {
	event api.Event
	is    bool
	err   api.Errno // of Take, and of Err
	over  bool
	part  int
}

// nothing is told of a message of which so many bytes came.
func nothing(part int) told { return told{part: part} }

// tells is an event, while so many bytes of a message are kept.
func tells(e api.Event, part int) told { return told{event: e, is: true, part: part} }

// message is the event of a message, behind which nothing is kept.
func message(op int, data string) told { return tells(api.Event{Op: op, Data: data}, 0) }

// end is the event of a close.
func end(code int, words string) told {
	return told{event: api.Event{Op: 8, Code: code, Data: words}, is: true, over: true}
}

// fault is what is wrong.
func fault(err api.Errno) told { return told{err: err} }

// frames of each op, without a mask.
func frameOf(op int, fin bool, data string) api.Frame { return api.Frame{Fin: fin, Op: op, Data: data} }
func text(fin bool, data string) api.Frame            { return frameOf(1, fin, data) }
func binary(fin bool, data string) api.Frame          { return frameOf(2, fin, data) }
func more(fin bool, data string) api.Frame            { return frameOf(0, fin, data) }
func ping(data string) api.Frame                      { return frameOf(9, true, data) }
func pong(data string) api.Frame                      { return frameOf(10, true, data) }
func closing(data string) api.Frame                   { return frameOf(8, true, data) }

// masked is a frame with a mask.
func masked(f api.Frame, key [4]byte) api.Frame {
	f.Masked, f.Key = true, key
	return f
}

// keys are masks of noughts, of 255s, and of bytes that are all different.
var keys = [][4]byte{{}, {255, 255, 255, 255}, {0x37, 0xfa, 0x21, 0x3d}}

// sample is n bytes of all values.
func sample(n int) string {
	out := make([]byte, n)
	for i := range out {
		out[i] = byte(i*167 + i/251 + 72)
	}
	return string(out)
}

// fill is n bytes, of which the last ones are end, and those ahead letters.
func fill(n int, end string) string { return strings.Repeat("x", n-len(end)) + end }

// plain is what a machine must come to, told by the chapter's words case by case.
type plain struct {
	most int
	op   int // of the message that is begun, 0: none is
	data string
	err  api.Errno
	over bool
}

func (p *plain) take(f api.Frame) told {
	event, is := p.event(f)
	if p.err != api.OK || p.over || is && event.Op < 8 {
		p.op, p.data = 0, ""
	}
	return told{event, is, p.err, p.over, len(p.data)}
}

func (p *plain) event(f api.Frame) (api.Event, bool) {
	if p.err != api.OK || p.over {
		return api.Event{}, false
	}
	if p.err = p.wrong(f); p.err != api.OK {
		return api.Event{}, false
	}
	switch {
	case f.Op == 8:
		p.over = true
		code, words, _ := plainEnd(f.Data)
		return api.Event{Op: 8, Code: code, Data: words}, true
	case f.Op > 8:
		return api.Event{Op: f.Op, Data: f.Data}, true
	case f.Op > 0:
		p.op = f.Op
	}
	p.data += f.Data
	if !f.Fin {
		return api.Event{}, false
	}
	return api.Event{Op: p.op, Data: p.data}, true
}

// wrong is the first error that holds.
func (p *plain) wrong(f api.Frame) api.Errno {
	op := max(p.op, f.Op)
	switch all := p.data + f.Data; {
	case !mayBe(f):
		return 120
	case f.Op == 8:
		_, _, err := plainEnd(f.Data)
		return err
	case f.Op > 8:
		return 0
	case f.Op == 0 && p.op == 0, f.Op != 0 && p.op != 0:
		return 120
	case len(all) > p.most:
		return 121
	case op == 1 && !beginning(all), op == 1 && f.Fin && !utf8.ValidString(all):
		return 122
	}
	return 0
}

// mayBe is whether a frame may be, but for its length.
func mayBe(f api.Frame) bool {
	switch f.Op {
	case 0, 1, 2:
	case 8, 9, 10:
		if !f.Fin || len(f.Data) > 125 {
			return false
		}
	default:
		return false
	}
	return f.Masked || f.Key == [4]byte{}
}

// plainEnd is the code and the words of an end's data.
func plainEnd(data string) (int, string, api.Errno) {
	if data == "" {
		return 1005, "", 0
	}
	if len(data) == 1 || len(data) > 125 {
		return 0, "", 110
	}
	code := 256*int(data[0]) + int(data[1])
	if code < 1000 || code > 1003 && code < 1007 || code > 1011 && code < 3000 || code > 4999 {
		return 0, "", 110
	}
	if !utf8.ValidString(data[2:]) {
		return 0, "", 111
	}
	return code, data[2:], 0
}

// beginning is whether bytes are a beginning of the bytes of some letters.
func beginning(b string) bool {
	for b != "" && utf8.FullRuneInString(b) {
		r, size := utf8.DecodeRuneInString(b)
		if r == utf8.RuneError && size == 1 {
			return false
		}
		b = b[size:]
	}
	return true
}

func made(t *testing.T, most int) *msg.Machine {
	t.Helper()
	m, err := msg.New(most)
	if err != api.OK || m == nil {
		t.Fatalf("New(%d): %v, error %d", most, m, err)
	}
	return m
}

// talk is a machine, what it must come to, the frames that came to it, and the events that it told.
type talk struct {
	t         *testing.T
	m         *msg.Machine
	plain     plain
	frames    []api.Frame
	got, want []api.Event
}

func newTalk(t *testing.T, most int) *talk {
	t.Helper()
	k := &talk{t: t, m: made(t, most), plain: plain{most: most}}
	k.stands(nothing(0))
	return k
}

func (k *talk) String() string {
	out := fmt.Sprintf("at most %d bytes", k.plain.most)
	for _, f := range k.frames[max(0, len(k.frames)-12):] {
		out += fmt.Sprintf("; op %d, Fin %t, Masked %t, Key %v, %d bytes %.24q", f.Op, f.Fin, f.Masked, f.Key, len(f.Data), f.Data)
	}
	return out
}

// stands holds Err, Over and Part against what they must be, and asks twice: asking changes nothing.
func (k *talk) stands(want told) {
	k.t.Helper()
	for range 2 {
		if k.m.Err() != want.err || k.m.Over() != want.over || k.m.Part() != want.part {
			k.t.Fatalf("%v: Err %d, Over %t, Part %d, want %d, %t, %d", k, k.m.Err(), k.m.Over(), k.m.Part(), want.err, want.over, want.part)
		}
	}
}

// check hands a frame to the machine, and holds what it comes to against what it must come to. The memory of its Data is changed then, so that none of it can be kept, or handed out.
func (k *talk) check(f api.Frame, want told) {
	k.t.Helper()
	k.frames = append(k.frames, f)
	room := []byte(f.Data + "behind")
	handed := f
	handed.Data = unsafe.String(&room[0], len(f.Data))
	event, is, err := k.m.Take(handed)
	if string(room) != f.Data+"behind" {
		k.t.Fatalf("%v: Take changed its Data", k)
	}
	for i := range room {
		room[i] ^= 0x55
	}
	if event != want.event || is != want.is || err != want.err {
		k.t.Fatalf("%v: event of op %d, code %d, %d bytes %.40q, %t, error %d; want op %d, code %d, %d bytes %.40q, %t, error %d", k,
			event.Op, event.Code, len(event.Data), event.Data, is, err, want.event.Op, want.event.Code, len(want.event.Data), want.event.Data, want.is, want.err)
	}
	if is {
		k.got, k.want = append(k.got, event), append(k.want, want.event)
	}
	k.stands(want)
}

// take is a frame, and what it must come to, which is held against the chapter's words, too.
func (k *talk) take(f api.Frame, want told) *talk {
	k.t.Helper()
	k.check(f, want)
	if plain := k.plain.take(f); plain != want {
		k.t.Fatalf("%v: by the chapter's words %v, by the test %v", k, plain, want)
	}
	return k
}

// reckon is frames, and what they come to by the chapter's words.
func (k *talk) reckon(frames ...api.Frame) *talk {
	k.t.Helper()
	for _, f := range frames {
		k.check(f, k.plain.take(f))
	}
	return k
}

// whatever is frames of all kinds, those that are right and those that are wrong at some place or at each.
var whatever = []api.Frame{
	text(true, "a"), text(false, ""), more(true, "b"), binary(false, "\xff"), more(false, ""), more(true, ""), text(false, "\xc3"), ping("there?"), more(true, "\xa4"),
	pong(""), closing("\x03\xe9other"), closing(""), closing("a"), closing("\x03\xe8\xff"), text(true, "\xff"), binary(true, sample(300)), text(false, fill(300, "\xc3")),
	frameOf(3, true, ""), frameOf(-1, false, "a"), frameOf(9, false, ""), ping(sample(126)), {Fin: true, Op: 1, Key: keys[1]}, masked(text(true, "c"), keys[2]), {},
}

// rest is what must come to nothing any more: behind an error to that error, behind an end to none.
func (k *talk) rest() {
	k.t.Helper()
	if k.plain.err == api.OK && !k.plain.over {
		k.t.Fatalf("%v: neither wrong nor over", k)
	}
	still := told{err: k.plain.err, over: k.plain.over}
	for _, f := range whatever {
		k.take(f, still)
	}
	k.done()
}

// done holds the events once more against what they were: they stay.
func (k *talk) done() {
	k.t.Helper()
	if !slices.Equal(k.got, k.want) {
		k.t.Fatalf("%v: events that were told are others now", k)
	}
}

// sizes are bounds that may be, and that may not be.
var sizes = []struct {
	most int
	may  bool
}{
	{0, false}, {1, true}, {2, true}, {3, true}, {124, true}, {125, true}, {126, true}, {127, true}, {65535, true}, {65536, true}, {65537, true},
	{1<<20 - 2, true}, {1<<20 - 1, true}, {1 << 20, true}, {1<<20 + 1, false}, {1<<20 + 2, false}, {1 << 21, false}, {1 << 24, false},
	{-1, false}, {-2, false}, {-125, false}, {-1 << 20, false}, {-1<<20 - 1, false}, {1<<31 - 1, false}, {1 << 31, false}, {1 << 32, false}, {1<<32 + 1, false}, {1<<32 + 1<<20, false},
	{-1<<32 + 1, false}, {-1 << 31, false}, {-1<<31 + 1, false}, {math.MinInt, false}, {math.MinInt + 1, false}, {math.MinInt + 1<<20, false}, {math.MaxInt, false}, {math.MaxInt - 1, false},
}

// P12.1: New of the bounds that may be, and of the others: no machine.
func TestNew(t *testing.T) {
	for _, x := range sizes {
		if x.may {
			newTalk(t, x.most)
			continue
		}
		if m, err := msg.New(x.most); m != nil || err != 123 {
			t.Errorf("New(%d): %v, error %d, want none, 123", x.most, m, err)
		}
	}
	for most := -1000; most <= 0; most++ {
		if m, err := msg.New(most); m != nil || err != 123 {
			t.Errorf("New(%d): %v, error %d, want none, 123", most, m, err)
		}
	}
}

// P12.1: the bound that New is told is the one that holds: messages of just so many bytes are told, those of one more aren't.
func TestNewBound(t *testing.T) {
	for _, x := range sizes {
		if !x.may {
			continue
		}
		data := sample(x.most)
		newTalk(t, x.most).take(binary(true, data), message(2, data)).take(binary(false, data), nothing(x.most)).take(more(true, ""), message(2, data)).take(binary(true, data+"a"), fault(121)).rest()
		newTalk(t, x.most).take(binary(false, data), nothing(x.most)).take(more(false, "a"), fault(121)).rest()
		letters := fill(x.most, "")
		newTalk(t, x.most).take(text(true, letters), message(1, letters)).take(text(true, letters+"a"), fault(121)).rest()
	}
}

// The chapter's example.
func TestExample(t *testing.T) {
	for _, most := range []int{5, 1 << 20} {
		k := newTalk(t, most).take(text(false, "He"), nothing(2)).take(ping(""), tells(api.Event{Op: 9}, 2)).take(more(true, "llo"), message(1, "Hello"))
		k.take(text(false, "He"), nothing(2)).take(ping("?"), tells(api.Event{Op: 9, Data: "?"}, 2)).take(more(true, "llo"), message(1, "Hello")).done()
	}
	newTalk(t, 4).take(text(false, "He"), nothing(2)).take(ping(""), tells(api.Event{Op: 9}, 2)).take(more(true, "llo"), fault(121)).rest()
}

// The rules: the numbers of what is told are the document's.
func TestNumbers(t *testing.T) {
	if api.ErrMsgOrder != 120 || api.ErrMsgLong != 121 || api.ErrMsgText != 122 || api.ErrMsgSize != 123 || api.ErrCloseForm != 110 || api.ErrCloseText != 111 || api.CodeNone != 1005 {
		t.Error("the tests' numbers aren't the document's")
	}
}

// place is how a machine stands when a frame comes: behind these. A message of op is begun with part, and tail is letters that may go on by; or none is begun.
type place struct {
	name  string
	ahead []api.Frame
	op    int
	part  string
	tail  string
}

var places = []place{
	{name: "at the start"},
	{name: "behind a ping", ahead: []api.Frame{ping("p")}},
	{name: "behind a pong", ahead: []api.Frame{pong("p"), pong("")}},
	{name: "behind a text", ahead: []api.Frame{text(true, "a")}},
	{name: "behind an empty text", ahead: []api.Frame{text(true, "")}},
	{name: "behind a binary", ahead: []api.Frame{binary(true, "\xc3")}},
	{name: "behind a text in two", ahead: []api.Frame{text(false, "\xc3"), more(true, "\xa4")}},
	{name: "behind a binary in three", ahead: []api.Frame{binary(false, "a"), more(false, "b"), more(true, "")}},
	{name: "behind both and a pong", ahead: []api.Frame{text(true, "a"), binary(false, ""), ping(""), more(true, "\xff"), pong("a")}},
	{name: "within a text", ahead: []api.Frame{text(false, "a")}, op: 1, part: "a"},
	{name: "within an empty text", ahead: []api.Frame{text(false, "")}, op: 1},
	{name: "within a text, behind a ping", ahead: []api.Frame{text(false, "ab"), ping("p")}, op: 1, part: "ab"},
	{name: "within a text's letter", ahead: []api.Frame{text(false, "a\xe2"), more(false, "\x82")}, op: 1, part: "a\xe2\x82", tail: "\xac"},
	{name: "within a binary", ahead: []api.Frame{binary(false, "\xff")}, op: 2, part: "\xff"},
	{name: "within an empty binary", ahead: []api.Frame{binary(false, ""), more(false, ""), pong("")}, op: 2},
	{name: "within a later binary", ahead: []api.Frame{text(true, "a"), binary(true, "b"), binary(false, "\xc3"), more(false, "c")}, op: 2, part: "\xc3c"},
}

// placeMost is a bound that leaves room at each place.
const placeMost = 20

// talk is a machine that stands there.
func (p place) talk(t *testing.T) *talk {
	t.Helper()
	k := newTalk(t, placeMost).reckon(p.ahead...)
	if k.plain.op != p.op || k.plain.data != p.part || k.plain.err != api.OK || k.plain.over {
		t.Fatalf("%s: it doesn't stand so", p.name)
	}
	return k
}

// goOn ends the message that is begun there, if one is, and is one more.
func (p place) goOn(k *talk) {
	k.t.Helper()
	if p.op != 0 {
		k.take(more(false, p.tail), nothing(len(p.part+p.tail))).take(more(true, "z"), message(p.op, p.part+p.tail+"z"))
	}
	k.take(text(false, "\xc3"), nothing(1)).take(more(true, "\xa4"), message(1, "\xc3\xa4")).take(binary(true, "\xc3"), message(2, "\xc3")).done()
}

// Each place is one at which a message can go on.
func TestPlaces(t *testing.T) {
	for _, p := range places {
		p.goOn(p.talk(t))
	}
}
