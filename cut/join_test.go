package cut_test

import (
	"slices"
	"strings"
	"testing"

	"pendentive/api"
)

// P13.2: messages that are written out.
func TestKnownJoin(t *testing.T) {
	for _, x := range []struct {
		l    []api.Frame
		op   int
		data string
	}{
		{[]api.Frame{text(true, "Hello")}, 1, "Hello"},
		{[]api.Frame{bytesOf(true, "\x00\xff")}, 2, "\x00\xff"},
		{[]api.Frame{text(true, "")}, 1, ""},
		{[]api.Frame{bytesOf(true, "")}, 2, ""},
		{[]api.Frame{text(false, "He"), more(false, "ll"), more(true, "o")}, 1, "Hello"},
		{[]api.Frame{bytesOf(false, "a"), more(true, "b")}, 2, "ab"},
		{[]api.Frame{text(false, ""), more(true, "")}, 1, ""},
		{[]api.Frame{text(false, ""), more(false, "a"), more(false, ""), more(true, "b")}, 1, "ab"},
		{[]api.Frame{text(false, "a"), more(false, ""), more(true, "")}, 1, "a"},
		{[]api.Frame{text(false, "\xe2"), more(true, "\x82\xac")}, 1, "\xe2\x82\xac"},
		{[]api.Frame{text(true, "\xff no letters")}, 1, "\xff no letters"},
		{[]api.Frame{masked(text(false, "He"), keys[2]), more(false, "ll"), masked(more(true, "o"), keys[1])}, 1, "Hello"},
		{[]api.Frame{masked(bytesOf(true, "Hello"), keys[0])}, 2, "Hello"},
		{[]api.Frame{{Op: 1, Key: keys[2], Data: "a"}, {Fin: true, Key: keys[1], Data: "b"}}, 1, "ab"},
		{[]api.Frame{text(false, longest[:65537]), more(true, "b")}, 1, longest[:65537] + "b"},
		{[]api.Frame{bytesOf(true, longest)}, 2, longest},
		{[]api.Frame{bytesOf(false, longest), more(true, longest)}, 2, longest + longest},
	} {
		checkJoin(t, x.l, x.op, x.data, true)
	}
}

// P13.2: frames that are no message's: 0, nothing, false.
func TestKnownNoJoin(t *testing.T) {
	for _, l := range [][]api.Frame{
		nil,
		{},
		{{}},
		{text(false, "a")},
		{bytesOf(false, "")},
		{more(true, "a")},
		{more(false, "a"), more(true, "b")},
		{more(true, "a"), text(true, "b")},
		{ping("a")},
		{frameOf(8, true, "\x03\xe8")},
		{frameOf(10, true, "")},
		{frameOf(9, false, "a"), more(true, "b")},
		{frameOf(3, true, "a")},
		{frameOf(-1, true, "a")},
		{text(false, "a"), text(true, "b")},
		{text(false, "a"), bytesOf(true, "b")},
		{bytesOf(false, "a"), bytesOf(true, "b")},
		{text(false, "a"), ping("p"), more(true, "b")},
		{text(false, "a"), more(true, "b"), ping("p")},
		{ping("p"), text(true, "a")},
		{text(false, "a"), frameOf(9, false, "p"), more(true, "b")},
		{text(false, "a"), frameOf(9, true, "p")},
		{text(false, "a"), frameOf(3, true, "b")},
		{text(false, "a"), more(false, "b")},
		{text(true, "a"), more(true, "b")},
		{text(true, "a"), more(false, "b")},
		{text(false, "a"), more(true, "b"), more(true, "c")},
		{text(false, "a"), more(true, "b"), more(false, "c")},
		{text(true, "a"), more(false, "b"), more(true, "c")},
		{text(true, "a"), text(true, "b")},
		{text(true, ""), more(true, "")},
		{text(false, ""), more(false, ""), more(false, "")},
		{more(true, "")},
		{masked(text(false, "a"), keys[2])},
		{bytesOf(false, longest)},
		{text(true, "a"), more(true, longest)},
	} {
		checkJoin(t, l, 0, "", false)
	}
}

// P13.2: all lists of up to three frames of many kinds, and of up to five of those that begin, go on or end a message.
func TestEveryJoin(t *testing.T) {
	var some, few []api.Frame
	for _, fin := range []bool{false, true} {
		for _, op := range []int{0, 1, 2, 3, 8, 9, 10, -1} {
			some = append(some, frameOf(op, fin, "a"), masked(frameOf(op, fin, "bc"), keys[2]))
		}
		few = append(few, text(fin, "a"), bytesOf(fin, ""), more(fin, "b"), more(fin, ""))
	}
	for count := range 4 {
		lists(some, count, func(l []api.Frame) { reckonJoin(t, l) })
	}
	for count := range 6 {
		lists(few, count, func(l []api.Frame) { reckonJoin(t, l) })
	}
}

// P13.2: a first one, one between, and a last one of each op.
func TestJoinOps(t *testing.T) {
	for _, op := range ops {
		for _, fin := range []bool{false, true} {
			f := frameOf(op, fin, "f")
			for _, l := range [][]api.Frame{{f}, {f, more(true, "b")}, {f, more(false, "b"), more(true, "c")}, {text(false, "a"), f}, {text(false, "a"), f, more(true, "c")}, {bytesOf(false, "a"), more(false, "b"), f}, {f, f}} {
				reckonJoin(t, l)
			}
		}
	}
}

// message is one of so many frames, some of them empty, some with a mask.
func message(op, count int) []api.Frame {
	var out []api.Frame
	for i := range count {
		f := more(i == count-1, longest[i:i+i%5])
		if i%3 == 1 {
			f = masked(f, keys[i/3%3])
		}
		out = append(out, f)
	}
	out[0].Op = op
	return out
}

// P13.2: a message of many frames, of which one at each place is another.
func TestJoinAtEachPlace(t *testing.T) {
	for _, op := range []int{1, 2} {
		for _, count := range []int{1, 2, 3, 7, 40} {
			reckonJoin(t, message(op, count))
			if _, _, is := plainJoin(message(op, count)); !is {
				t.Fatalf("%d frames are no message", count)
			}
			for at := range count {
				for _, other := range ops {
					l := message(op, count)
					l[at].Op = other
					reckonJoin(t, l)
				}
				l := message(op, count)
				l[at].Fin = !l[at].Fin
				checkJoin(t, l, 0, "", false)
				reckonJoin(t, slices.Delete(message(op, count), at, at+1))
				reckonJoin(t, slices.Insert(message(op, count), at, ping("p")))
				reckonJoin(t, slices.Insert(message(op, count), at, more(false, "more")))
				reckonJoin(t, message(op, count)[:at])
				reckonJoin(t, message(op, count)[at:])
				reckonJoin(t, append(message(op, count), message(op, count)[at]))
			}
		}
	}
}

// P13.2: masks don't matter, whatever they are, nor keys without a mask.
func TestJoinMasks(t *testing.T) {
	for ways := range 1 << 8 {
		l := message(1+ways%2, 4)
		for i := range l {
			l[i].Masked, l[i].Key = ways>>i&1 != 0, [4]byte{}
			if ways>>(4+i)&1 != 0 {
				l[i].Key = keys[2]
			}
		}
		checkJoin(t, l, 1+ways%2, longest[1:2]+longest[2:4]+longest[3:6], true)
	}
}

// P13.2, P1: very many frames, in good time, the wrong one last, and empty ones among them.
func TestManyJoin(t *testing.T) {
	l := []api.Frame{text(false, "begin")}
	for range 1 << 17 {
		l = append(l, more(false, "ab"), more(false, ""))
	}
	checkJoin(t, l, 0, "", false)
	checkJoin(t, append(l, more(true, "end")), 1, "begin"+strings.Repeat("ab", 1<<17)+"end", true)
	checkJoin(t, append(l, text(true, "end")), 0, "", false)
	checkJoin(t, append(l, more(true, "end"), more(true, "")), 0, "", false)
}
