package cut_test

import (
	"math"
	"slices"
	"strings"
	"testing"

	"pendentive/api"
	"pendentive/cut"
)

// P13.2: answers of Bytes that are written out.
func TestKnownBytes(t *testing.T) {
	key := [4]byte{0x37, 0xfa, 0x21, 0x3d}
	for _, x := range []struct {
		l    []api.Frame
		want string
	}{
		{nil, ""},
		{[]api.Frame{}, ""},
		{[]api.Frame{{}}, "\x00\x00"},
		{[]api.Frame{{Fin: true, Op: 1, Data: "Hello"}}, "\x81\x05Hello"},
		{[]api.Frame{{Op: 1, Data: "He"}, {Data: "ll"}, {Fin: true, Data: "o"}}, "\x01\x02He\x00\x02ll\x80\x01o"},
		{[]api.Frame{{Fin: true, Op: 1, Masked: true, Key: key, Data: "Hello"}, {Fin: true, Op: 10, Masked: true, Key: key, Data: "Hello"}}, "\x81\x85\x37\xfa\x21\x3d\x7f\x9f\x4d\x51\x58\x8a\x85\x37\xfa\x21\x3d\x7f\x9f\x4d\x51\x58"},
		{[]api.Frame{{Op: 1, Masked: true, Key: [4]byte{1}, Data: "a"}, {Fin: true, Masked: true, Key: [4]byte{3: 255}, Data: "b"}}, "\x01\x81\x01\x00\x00\x00\x60\x80\x81\x00\x00\x00\xff\x62"},
		{[]api.Frame{{Op: 2, Data: "a"}, {Fin: true, Masked: true, Data: "b"}, {Fin: true, Op: 9}}, "\x02\x01a\x80\x81\x00\x00\x00\x00b\x89\x00"},
		{[]api.Frame{{Fin: true, Op: 8, Data: "\x03\xe8"}, {Fin: true, Op: 1}, {Op: 1}, {Op: 2}}, "\x88\x02\x03\xe8\x81\x00\x01\x00\x02\x00"},
		{[]api.Frame{{Fin: true, Op: 2, Data: strings.Repeat("a", 126)}, {Fin: true, Op: 9, Data: strings.Repeat("p", 125)}}, "\x82\x7e\x00\x7e" + strings.Repeat("a", 126) + "\x89\x7d" + strings.Repeat("p", 125)},
		{[]api.Frame{{Op: 2, Data: strings.Repeat("a", 65536)}, {Fin: true, Data: strings.Repeat("b", 65535)}}, "\x02\x7f\x00\x00\x00\x00\x00\x01\x00\x00" + strings.Repeat("a", 65536) + "\x80\x7e\xff\xff" + strings.Repeat("b", 65535)},
	} {
		checkBytes(t, x.l, []byte(x.want), 0)
	}
}

// P13.2: of frames of which one may not be, or is too long, the error of the first one, and no bytes.
func TestKnownWrongBytes(t *testing.T) {
	right, form, tooLong := text(true, "Hello"), frameOf(3, true, "abc"), text(true, longest[:65537])
	for _, x := range []struct {
		l    []api.Frame
		want api.Errno
	}{
		{[]api.Frame{form}, 91}, {[]api.Frame{tooLong}, 92},
		{[]api.Frame{form, right}, 91}, {[]api.Frame{right, form}, 91}, {[]api.Frame{right, form, right}, 91},
		{[]api.Frame{tooLong, right}, 92}, {[]api.Frame{right, tooLong}, 92}, {[]api.Frame{right, tooLong, right}, 92},
		{[]api.Frame{form, tooLong}, 91}, {[]api.Frame{tooLong, form}, 92},
		{[]api.Frame{right, form, right, tooLong}, 91}, {[]api.Frame{right, tooLong, right, form}, 92},
		{[]api.Frame{frameOf(9, false, "")}, 91}, {[]api.Frame{ping(sample(126))}, 91}, {[]api.Frame{{Fin: true, Op: 1, Key: keys[2]}}, 91}, {[]api.Frame{frameOf(-1, true, "")}, 91},
		{[]api.Frame{frameOf(math.MinInt, true, "")}, 91}, {[]api.Frame{frameOf(math.MaxInt, true, "")}, 91}, {[]api.Frame{frameOf(257, true, "")}, 91},
		{[]api.Frame{ping(longest[:65537])}, 91}, {[]api.Frame{frameOf(3, true, longest[:65537])}, 91}, {[]api.Frame{{Op: 1, Key: keys[2], Data: longest[:65537]}}, 91},
		{[]api.Frame{masked(more(true, longest[:65537]), keys[2])}, 92}, {[]api.Frame{more(false, longest)}, 92},
		{[]api.Frame{right, ping(longest[:65537]), tooLong}, 91},
	} {
		checkBytes(t, x.l, nil, x.want)
	}
}

// P13.2: all lists of up to three frames of all kinds, such as may not be among them.
func TestEveryBytes(t *testing.T) {
	for count := range 4 {
		lists(kinds(), count, func(l []api.Frame) { reckonBytes(t, l) })
	}
	for count := range 3 {
		lists(append(long(), text(true, "Hello"), frameOf(3, true, "abc")), count, func(l []api.Frame) { reckonBytes(t, l) })
	}
	for _, op := range ops {
		for _, fin := range []bool{false, true} {
			reckonBytes(t, []api.Frame{text(true, "a"), frameOf(op, fin, "b"), masked(frameOf(op, fin, "c"), keys[2])})
		}
	}
}

// rights are so many frames that may be, with masks and without, of all sizes.
func rights(count int) []api.Frame {
	var out []api.Frame
	for i := range count {
		f := frameOf([]int{0, 1, 2, 8, 9, 10}[i%6], i%6 > 2 || i%5 < 2, longest[i:i+i*i%126])
		if i%7 < 3 {
			f = masked(f, [4]byte{byte(i), byte(i * 3), byte(i * 5), byte(i * 7)})
		}
		out = append(out, f)
	}
	return out
}

// P13.2: wrong ones at each place of many, and two of different kinds at each two places: the error of the first one.
func TestWrongAtEachPlace(t *testing.T) {
	wrong := []api.Frame{frameOf(11, true, ""), text(false, longest[:65537])}
	l := rights(24)
	reckonBytes(t, l)
	for at := range l {
		for i, want := range []api.Errno{91, 92} {
			one := slices.Clone(l)
			one[at] = wrong[i]
			checkBytes(t, one, nil, want)
			for behind := at + 1; behind < len(l); behind++ {
				two := slices.Clone(one)
				two[behind] = wrong[1-i]
				if b, err := cut.Bytes(two); err != want || len(b) != 0 {
					t.Fatalf("wrong ones at %d and %d: %d bytes, error %d, want %d", at, behind, len(b), err, want)
				}
			}
		}
	}
}

// P13.2, P1: many frames, short ones and long ones, in good time; and with one at the end that may not be.
func TestManyBytes(t *testing.T) {
	for _, count := range []int{100, 1000, 20000} {
		reckonBytes(t, rights(count))
	}
	l := slices.Repeat(long()[:2], 60)
	reckonBytes(t, l)
	reckonBytes(t, append(l, long()[2]))
	reckonBytes(t, append(l, ping(longest[:65537])))
}
