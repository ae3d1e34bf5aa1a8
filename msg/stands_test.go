package msg_test

import (
	"testing"

	"pendentive/api"
	"pendentive/msg"
)

// P12.2: Err, Over and Part at the start, within a message, behind one, behind each error, behind an end, and behind an end that came within a message.
func TestStands(t *testing.T) {
	within := []api.Frame{text(false, "ab"), ping("p"), more(false, "\xc3")}
	later := []api.Frame{text(true, "a"), binary(false, "\xff\xfe"), pong("")}
	for _, x := range []struct {
		ahead  []api.Frame
		frames []api.Frame
		err    api.Errno
		over   bool
		part   int
	}{
		{nil, nil, 0, false, 0},
		{nil, []api.Frame{ping("p")}, 0, false, 0},
		{nil, []api.Frame{text(false, "")}, 0, false, 0},
		{nil, []api.Frame{text(false, "a")}, 0, false, 1},
		{nil, []api.Frame{binary(false, "a"), more(false, "bc")}, 0, false, 3},
		{nil, []api.Frame{binary(false, "a"), more(false, "bc"), more(false, "")}, 0, false, 3},
		{nil, []api.Frame{binary(false, "a"), pong("pong")}, 0, false, 1},
		{nil, []api.Frame{text(true, "a")}, 0, false, 0},
		{within, nil, 0, false, 3},
		{within, []api.Frame{more(true, "\xa4")}, 0, false, 0},
		{within, []api.Frame{more(true, "\xa4"), ping("p")}, 0, false, 0},
		{within, []api.Frame{more(true, "\xa4"), binary(false, "b")}, 0, false, 1},
		{later, nil, 0, false, 2},
		{later, []api.Frame{more(true, "")}, 0, false, 0},
		{nil, []api.Frame{more(true, "")}, 120, false, 0},
		{nil, []api.Frame{frameOf(3, true, "")}, 120, false, 0},
		{nil, []api.Frame{text(true, "0123456789a")}, 121, false, 0},
		{nil, []api.Frame{text(true, "\xff")}, 122, false, 0},
		{nil, []api.Frame{closing("a")}, 110, false, 0},
		{nil, []api.Frame{closing("\x03\xe8\xff")}, 111, false, 0},
		{within, []api.Frame{text(true, "")}, 120, false, 0},
		{within, []api.Frame{frameOf(9, false, "")}, 120, false, 0},
		{within, []api.Frame{more(false, "\xa4345678")}, 0, false, 10},
		{within, []api.Frame{more(false, "\xa43456789")}, 121, false, 0},
		{within, []api.Frame{more(false, "\xff")}, 122, false, 0},
		{within, []api.Frame{more(true, "")}, 122, false, 0},
		{within, []api.Frame{closing("\x03\xed")}, 110, false, 0},
		{within, []api.Frame{closing("\x03\xe8\xc3")}, 111, false, 0},
		{later, []api.Frame{text(false, "")}, 120, false, 0},
		{later, []api.Frame{more(false, "23456789a")}, 121, false, 0},
		{later, []api.Frame{closing("\xff")}, 110, false, 0},
		{later, []api.Frame{closing("\x13\x87\x80")}, 111, false, 0},
		{nil, []api.Frame{closing("")}, 0, true, 0},
		{nil, []api.Frame{closing("\x03\xe8bye")}, 0, true, 0},
		{within, []api.Frame{closing("")}, 0, true, 0},
		{within, []api.Frame{closing("\x03\xe8bye")}, 0, true, 0},
		{later, []api.Frame{closing("\x13\x87")}, 0, true, 0},
		{later, []api.Frame{more(true, ""), closing("\x13\x87")}, 0, true, 0},
	} {
		k := newTalk(t, 10).reckon(x.ahead...).reckon(x.frames...)
		k.stands(told{err: x.err, over: x.over, part: x.part})
		if x.err != 0 || x.over {
			k.rest()
			k.stands(told{err: x.err, over: x.over})
		}
	}
}

// afters are what comes behind an error, or an end: what is right, what is wrong by each error, ends, and what is too long for any message.
func afters() []api.Frame {
	return append([]api.Frame{
		text(true, "Hello"), text(false, "He"), more(false, "l"), more(true, "lo"), binary(true, sample(1<<20)), binary(true, sample(1<<20+1)), binary(true, sample(1<<21)), text(true, fill(1<<20, "\xff")),
		{Fin: true, Op: 7}, {Op: -1}, {Op: 8}, {Fin: true, Op: 8, Data: sample(126)}, {Fin: true, Op: 9, Key: keys[2]}, closing("\x03\xed"), closing("\x03\xe8"), closing("\x03\xe8\xff"), closing(""),
	}, whatever...)
}

// P12.1 and P12.2: whatever comes behind each error, and behind an end, and in whatever order, comes to nothing; the error stays the first one, and an end doesn't come once more.
func TestAfter(t *testing.T) {
	for _, x := range []struct {
		last api.Frame
		want told
	}{
		{frameOf(3, true, ""), fault(120)}, {frameOf(9, false, ""), fault(120)}, {ping(sample(126)), fault(120)}, {api.Frame{Fin: true, Op: 1, Key: keys[1]}, fault(120)},
		{closing("a"), fault(110)}, {closing("\x03\xed"), fault(110)}, {closing("\x03\xe8\xff"), fault(111)},
		{closing(""), end(1005, "")}, {closing("\x03\xe8"), end(1000, "")}, {closing("\x03\xe9bye"), end(1001, "bye")},
	} {
		for _, p := range places {
			checkAfter(t, p, x.last, x.want)
		}
	}
	for _, p := range places {
		if p.op == 0 {
			checkAfter(t, p, more(true, "a"), fault(120))
			checkAfter(t, p, text(true, "\xff"), fault(122))
			checkAfter(t, p, text(false, "\xff"), fault(122))
			checkAfter(t, p, binary(true, sample(placeMost+1)), fault(121))
			continue
		}
		checkAfter(t, p, text(true, "a"), fault(120))
		checkAfter(t, p, more(false, sample(placeMost+1-len(p.part))), fault(121))
		if p.op == 1 {
			checkAfter(t, p, more(true, p.tail+"\xff"), fault(122))
		}
	}
}

// checkAfter is a last frame that comes to something, at a place, and all the others behind it.
func checkAfter(t *testing.T, p place, last api.Frame, want told) {
	t.Helper()
	k := p.talk(t).take(last, want)
	still := told{err: want.err, over: want.over}
	for _, f := range whatever {
		k.take(f, still)
	}
	k.take(last, still).rest()
}

// P12.1: so of frames with very many bytes.
func TestLongAfter(t *testing.T) {
	for _, last := range []api.Frame{closing(""), closing("a"), closing("\x03\xe8\xff"), more(true, ""), text(true, "\xff"), binary(true, sample(1<<20+1))} {
		k := newTalk(t, 1<<20).reckon(last)
		still := told{err: k.m.Err(), over: k.m.Over()}
		for _, f := range afters() {
			k.take(f, still)
		}
		k.done()
	}
}

// P12.2: what is asked of a machine changes nothing, however often, and at whatever place.
func TestAsked(t *testing.T) {
	frames := []api.Frame{text(false, "a"), ping("p"), more(false, "\xc3"), more(true, "\xa4"), binary(true, "\xff"), closing("\x03\xe8"), text(true, "a")}
	m, asked := made(t, 10), made(t, 10)
	ask := func(m *msg.Machine) {
		for range 9 {
			m.Part()
			m.Over()
			m.Err()
		}
	}
	for _, f := range frames {
		ask(asked)
		event, is, err := m.Take(f)
		event2, is2, err2 := asked.Take(f)
		if event != event2 || is != is2 || err != err2 || m.Part() != asked.Part() || m.Over() != asked.Over() || m.Err() != asked.Err() {
			t.Fatalf("%v, %t, %d and %v, %t, %d", event, is, err, event2, is2, err2)
		}
	}
}
