package msg_test

import (
	"math/bits"
	"slices"
	"testing"

	"pendentive/api"
)

// cuts are all ways in which bytes can be cut into frames of a message, with at most so many cuts at each place, the ones ahead of the first byte and behind the last one included: two cuts at one place make an empty frame.
func cuts(op int, data string, most int) [][]api.Frame {
	var out [][]api.Frame
	var from func(done []api.Frame, start, at int)
	from = func(done []api.Frame, start, at int) {
		if at > len(data) {
			last := append(slices.Clone(done), more(true, data[start:]))
			last[0].Op = op
			out = append(out, last)
			return
		}
		for range most + 1 {
			from(done, start, at+1)
			done = append(slices.Clone(done), more(false, data[start:at]))
			start = at
		}
	}
	from(nil, 0, 0)
	return out
}

// The ways to cut: so many, each a message's frames with the same bytes.
func TestCuts(t *testing.T) {
	for _, x := range []struct {
		data        string
		most, count int
	}{{"", 0, 1}, {"", 2, 3}, {"a", 1, 4}, {"ab", 1, 8}, {"ab", 2, 27}, {"abcde", 2, 729}} {
		all := cuts(1, x.data, x.most)
		if len(all) != x.count {
			t.Errorf("%q: %d ways", x.data, len(all))
		}
		for _, frames := range all {
			joined := ""
			for i, f := range frames {
				joined += f.Data
				if f.Fin != (i == len(frames)-1) || (f.Op == 1) != (i == 0) || f.Op > 1 {
					t.Errorf("%q: frame %d is %v", x.data, i, f)
				}
			}
			if joined != x.data {
				t.Errorf("%q is joined %q", x.data, joined)
			}
		}
	}
}

// P12.3: a message that is cut into frames in whatever way, with empty ones too, is the same.
func TestEveryCut(t *testing.T) {
	for _, data := range []string{"", "a", "Hello", "\xf0\x9f\x98\x80", "\xc3\xa4\xe2\x82\xac", "a\xc3\xa4z", "\xed\x9f\xbf", "\xff\xc0\x80", "\xc3"} {
		for _, op := range []int{1, 2} {
			want := newTalk(t, 5).reckon(frameOf(op, true, data))
			for _, frames := range cuts(op, data, 2) {
				k := newTalk(t, 5).reckon(frames...)
				if !slices.Equal(k.got, want.got) || k.m.Err() != want.m.Err() || k.m.Part() != 0 {
					t.Fatalf("%v: %v, error %d, want %v, error %d", k, k.got, k.m.Err(), want.got, want.m.Err())
				}
				k.done()
			}
		}
	}
	for _, data := range []string{"abcdefgh", "a\xe2\x82\xac\xf0\x9f\x98\x80", "\xe2\x82\xac\xc3\xa4abc"} {
		for _, op := range []int{1, 2} {
			k := newTalk(t, 8)
			for _, frames := range cuts(op, data, 1) { // one behind another, by one machine
				k.reckon(frames...)
			}
			for _, e := range k.got {
				if e != (api.Event{Op: op, Data: data}) {
					t.Fatalf("%v: event %v", k, e)
				}
			}
			if len(k.got) != 1<<(len(data)+1) || k.m.Part() != 0 {
				t.Fatalf("%q: %d messages, Part %d", data, len(k.got), k.m.Part())
			}
			k.done()
		}
	}
}

// P12.3: a message that is too long is so in whatever way it is cut.
func TestEveryCutOfTooLong(t *testing.T) {
	for most := 1; most < 6; most++ {
		for _, frames := range append(cuts(2, "abcdef", 2), cuts(1, "abcdef", 2)...) {
			if k := newTalk(t, most).reckon(frames...); k.m.Err() != 121 || len(k.got) != 0 || k.m.Part() != 0 {
				t.Fatalf("%v: %v, error %d", k, k.got, k.m.Err())
			}
		}
	}
}

// P12.3: a text that is none is so in whatever way it is cut, and with the frame that has its first wrong byte.
func TestEveryCutOfNoText(t *testing.T) {
	for _, x := range []struct {
		data  string
		known int
	}{{"ab\xffde", 3}, {"\xe2\x82ab", 3}, {"\xed\xa0\x80", 2}, {"\xf4\x90\x80\x80", 2}, {"a\xc3\xa4\xa4", 4}, {"\xff", 1}, {"a\xe2\x82", 4}, {"\xf0\x9f\x98", 4}} {
		for _, frames := range cuts(1, x.data, 2) {
			k, n := newTalk(t, 9), 0
			for _, f := range frames {
				n += len(f.Data)
				k.reckon(f)
				if wrong := n >= x.known || f.Fin; (k.m.Err() == 122) != wrong || len(k.got) != 0 {
					t.Fatalf("%v: %v, error %d behind %d bytes", k, k.got, k.m.Err(), n)
				}
			}
		}
	}
}

// messages are the events of a talk that are none of control frames.
func (k *talk) messages() []api.Event {
	return slices.DeleteFunc(slices.Clone(k.got), func(e api.Event) bool { return e.Op > 2 })
}

// P12.3: control frames put in at every place between a message's frames, ahead of them and behind, in all ways: the messages are the same, and the control frames' events are told in order.
func TestControlBetween(t *testing.T) {
	for _, frames := range [][]api.Frame{
		{text(true, "Hello")},
		{text(false, "He"), more(true, "llo")},
		{text(false, "\xe2"), more(false, "\x82"), more(true, "\xac")},
		{binary(false, ""), more(false, "\xc3"), more(false, ""), more(true, "")},
		{text(false, "a\xc3"), more(true, "\xa4"), binary(true, "\xff"), text(true, ""), binary(false, "a"), more(true, "b")},
	} {
		want := newTalk(t, 5).reckon(frames...)
		for ways := range 1 << (len(frames) + 1) {
			for _, between := range [][]api.Frame{{ping("")}, {pong("\xff")}, {ping("\xa4"), pong(""), ping(sample(125))}, {masked(pong("\xc3"), keys[2])}} {
				k := newTalk(t, 5)
				for i := range len(frames) + 1 {
					if ways>>i&1 != 0 {
						k.reckon(between...)
					}
					if i < len(frames) {
						k.reckon(frames[i])
					}
				}
				if !slices.Equal(k.messages(), want.got) || k.m.Err() != 0 || k.m.Part() != 0 || len(k.got) != len(want.got)+bits.OnesCount(uint(ways))*len(between) {
					t.Fatalf("%v: %v, error %d", k, k.got, k.m.Err())
				}
				k.done()
			}
		}
	}
}

// P12.3: so of a message that is cut in every way, with control frames at every place, and with a great many at one.
func TestControlBetweenCuts(t *testing.T) {
	data := "a\xe2\x82\xac"
	for _, op := range []int{1, 2} {
		for _, frames := range cuts(op, data, 2) {
			k := newTalk(t, 4)
			for i, f := range frames {
				k.reckon(f, ping(sample(i)), pong(""))
			}
			if l := k.messages(); len(l) != 1 || l[0] != (api.Event{Op: op, Data: data}) || len(k.got) != 1+2*len(frames) {
				t.Fatalf("%v: %v", k, k.got)
			}
		}
		k := newTalk(t, 4).take(frameOf(op, false, data[:2]), nothing(2))
		for i := range 1 << 12 {
			k.take(frameOf(9+i%2, true, sample(i%126)), tells(api.Event{Op: 9 + i%2, Data: sample(i % 126)}, 2))
		}
		k.take(more(true, data[2:]), message(op, data)).done()
	}
}

// P12.3: control frames between don't heal what is wrong, nor make it wrong in another way.
func TestControlBetweenWrong(t *testing.T) {
	for _, frames := range [][]api.Frame{
		{text(false, "\xe2"), more(true, "\x82")},
		{text(false, "\xe2"), more(false, "\x82"), more(true, "a")},
		{binary(false, "abc"), more(false, "de"), more(true, "f")},
		{text(false, "a"), more(false, ""), text(true, "b")},
		{binary(true, "a"), more(true, "b")},
	} {
		want := newTalk(t, 5).reckon(frames...)
		if want.m.Err() == 0 {
			t.Fatalf("%v: nothing is wrong", want)
		}
		for at := range len(frames) {
			for _, between := range []api.Frame{ping(""), pong("\xac"), ping("\x82\xac")} {
				k := newTalk(t, 5).reckon(slices.Insert(slices.Clone(frames), at, between)...)
				if k.m.Err() != want.m.Err() || !slices.Equal(k.messages(), want.got) {
					t.Fatalf("%v: error %d, want %d", k, k.m.Err(), want.m.Err())
				}
				k.rest()
			}
		}
	}
}

// kinds are frames of each kind, to be put one behind another in all ways.
func kinds() []api.Frame {
	out := []api.Frame{ping("p"), pong(""), closing(""), closing("\x03\xe8b"), closing("a"), closing("\x03\xe8\xff"), frameOf(3, true, ""), frameOf(9, false, ""), masked(more(true, "a"), keys[2]), {Op: 1, Key: keys[2]}}
	for _, op := range []int{0, 1, 2} {
		for _, fin := range []bool{false, true} {
			for _, data := range []string{"", "a", "\xc3", "\xa4", "ab", "abc"} {
				out = append(out, frameOf(op, fin, data))
			}
		}
	}
	return out
}

// P12.1 to P12.3: all ways to put frames of each kind one behind another, up to three, and of those that begin or go on up to five.
func TestAllWays(t *testing.T) {
	var walk func(kinds, ahead []api.Frame, left int)
	walk = func(kinds, ahead []api.Frame, left int) {
		for _, f := range kinds {
			frames := append(slices.Clone(ahead), f)
			if k := newTalk(t, 3).reckon(frames...); k.m.Err() == 0 && left > 1 {
				walk(kinds, frames, left-1)
			}
		}
	}
	walk(kinds(), nil, 3)
	walk([]api.Frame{text(true, "a"), text(false, "\xc3"), binary(false, "\xc3"), more(false, "\xa4"), more(true, "\xa4"), more(false, ""), more(true, ""), ping("p"), closing("")}, nil, 5)
}

// framesOf are frames that bytes tell: a byte for op, Fin and mask, one for how many bytes of Data, and these.
func framesOf(b []byte) []api.Frame {
	ops := []int{0, 1, 2, 8, 9, 10, 0, 1, 0, 3, 0, 9, 0, 2, 0, -1}
	var out []api.Frame
	for len(b) > 1 {
		n := min(int(b[1]), len(b)-2)
		f := api.Frame{Op: ops[b[0]&15], Fin: b[0]&16 == 0, Masked: b[0]&32 != 0, Data: string(b[2 : 2+n])}
		if b[0]&64 != 0 {
			f.Key = keys[b[0]>>7+1]
		}
		out, b = append(out, f), b[2+n:]
	}
	return out
}

// P1 and P12.1 to P12.3: whatever comes, Take answers, and none panics.
func FuzzTake(f *testing.F) {
	for _, most := range []int{1, 5, 125, 1 << 20} {
		f.Add(most, []byte("\x11\x02He\x04\x01?\x00\x03llo\x02\x01\xff\x03\x05\x03\xe8bye\x01\x00"))
		f.Add(most, []byte("\x11\x01\xe2\x10\x01\x82\x05\x00\x00\x01\xac\x32\x00\x20\x02ab\x03\x02\x03\xed"))
		f.Add(most, []byte("\x01\x01\xc3\x00\x00"))
		f.Add(most, []byte("\x61\x02ab\x41\x00"))
		f.Add(most, []byte("\x03\x03\x03\xe8\xff"))
		f.Add(most, []byte("\x12\x06abcdef\x09\x00"))
	}
	f.Fuzz(func(t *testing.T, most int, b []byte) {
		newTalk(t, 1+int(uint(most)%(1<<20))).reckon(framesOf(b)...).done()
		newTalk(t, 1+int(uint(most)%9)).reckon(framesOf(b)...).done()
	})
}
