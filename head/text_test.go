package head_test

import (
	"math"
	"slices"
	"strings"
	"testing"

	"pendentive/api"
	"pendentive/head"
)

// tokenByte is whether a token may have a byte.
func tokenByte(c byte) bool {
	return strings.IndexByte("abcdefghijklmnopqrstuvwxyzABCDEFGHIJKLMNOPQRSTUVWXYZ0123456789!#$%&'*+-.^_`|~", c) >= 0
}

// P5.2: of nothing: no token; of each byte alone, and ahead of, behind and between others.
func TestToken(t *testing.T) {
	if head.Token("") {
		t.Error("Token of nothing")
	}
	count := 0
	for value := range 256 {
		c := string([]byte{byte(value)})
		want := tokenByte(byte(value))
		if want {
			count++
		}
		for _, s := range []string{c, c + c, c + "a", "a" + c, "a" + c + "a", "~" + c, c + "9", strings.Repeat("x", 500) + c, c + strings.Repeat("X", 500)} {
			if got := head.Token(s); got != want {
				t.Errorf("Token of %.20q with byte %d: %t", s, value, got)
			}
		}
	}
	if count != 77 {
		t.Fatalf("the test's tokens have %d bytes", count)
	}
	for _, s := range []string{"GET", "Sec-WebSocket-Key", "aZ9!#$%&'*+-.^_`|~", "x.y", "0"} {
		if !head.Token(s) {
			t.Errorf("Token of %q: false", s)
		}
	}
	for _, s := range []string{" ", "a b", " a", "a ", "a,b", "a:", "\u00e4", "\u212a", "\uff21", "\x80", "\xff", "a\x00"} {
		if head.Token(s) {
			t.Errorf("Token of %q: true", s)
		}
	}
}

// P5.2: each byte against each, alone and among others: only letters count as their other case.
func TestSameEachByte(t *testing.T) {
	for one := range 256 {
		for other := range 256 {
			low, high := min(one, other), max(one, other)
			want := one == other || low >= 'A' && low <= 'Z' && high == low+32
			a, b := string([]byte{byte(one)}), string([]byte{byte(other)})
			if got := head.Same(a, b); got != want {
				t.Errorf("Same of %q and %q: %t", a, b, got)
			}
			if got := head.Same("xY"+a+"z", "Xy"+b+"Z"); got != want {
				t.Errorf("Same of %q and %q among others: %t", a, b, got)
			}
		}
	}
}

// P5.2: texts, their letters' neighbours, and other lengths.
func TestSame(t *testing.T) {
	for _, x := range []struct {
		a, b string
		want bool
	}{
		{"", "", true}, {"a", "a", true}, {"a", "A", true}, {"Upgrade", "uPGRADE", true}, {"x-Y", "X-y", true}, {"az AZ", "AZ az", true}, {"a[Z", "A[z", true}, {"10", "10", true},
		{"", "a", false}, {"a", "aa", false}, {"ab", "a", false}, {"ab", "b", false}, {"ab", "ba", false}, {"a", "b", false}, {"a", "", false}, {"websocket", "websockets", false}, {"a", "a\x00", false}, {"a ", "a", false},
		{"@", "`", false}, {"[", "{", false}, {"a@", "A`", false}, {"z[", "Z{", false}, {"\\", "|", false}, {"]", "}", false}, {"^", "~", false}, {"_", "\x7f", false},
		{"0", "P", false}, {"\x10", "0", false}, {"\r", "-", false}, {"\n", "*", false}, {"\x01", "!", false},
		{"\u00e4", "\u00c4", false}, {"\u00e4", "\u00e4", true}, {"\u212a", "k", false}, {"\u212a", "K", false}, {"s", "\u017f", false}, {"\xff", "\xdf", false}, {"\xff", "\xfe", false}, {"\xff", "\ufffd", false},
	} {
		if head.Same(x.a, x.b) != x.want || head.Same(x.b, x.a) != x.want {
			t.Errorf("Same of %q and %q: want %t, both ways", x.a, x.b, x.want)
		}
	}
	long := strings.Repeat("aB", 5000)
	if !head.Same(long+"z", strings.ToUpper(long)+"Z") || head.Same(long+"z", long+"y") || head.Same(long, long+"a") {
		t.Error("Same of long texts")
	}
}

// P5.2: Get of a name in any case, that is there more than once, once, and not at all.
func TestGet(t *testing.T) {
	h := made([3]string{"a", "b", "c"}, [2]string{"Host", "h"}, [2]string{"x-Y", "1, 2"}, [2]string{"Hosts", "no"}, [2]string{"X-y", ""}, [2]string{"host2", "h"}, [2]string{"x-y", "3"}, [2]string{"X-Y", "1, 2"}, [2]string{"Hos", "no"})
	for name, want := range map[string][]string{
		"Host": {"h"}, "host": {"h"}, "HOST": {"h"}, "hOsT": {"h"}, "Hosts": {"no"}, "HOS": {"no"}, "host2": {"h"},
		"x-Y": {"1, 2", "", "3", "1, 2"}, "x-y": {"1, 2", "", "3", "1, 2"}, "X-Y": {"1, 2", "", "3", "1, 2"},
		"": nil, "a": nil, "ost": nil, "Host:": nil, " Host": nil, "Host ": nil, "x\ry": nil, "x_y": nil, "GET": nil, "\xff": nil,
	} {
		if got := head.Get(h, name); !slices.Equal(got, want) {
			t.Errorf("Get of %q: %q, want %q", name, got, want)
		}
		if got := head.Get(api.Head{}, name); len(got) != 0 {
			t.Errorf("Get of %q, of no fields: %q", name, got)
		}
	}
}

// P5.2: names are told apart by letters alone, and a head that may not be is asked like any other.
func TestGetOfAnyHead(t *testing.T) {
	h := made([3]string{}, [2]string{"[", "1"}, [2]string{"{", "2"}, [2]string{"", "3"}, [2]string{"@", "4"}, [2]string{"`", "\xff\r\n "}, [2]string{"", "5"}, [2]string{"a b", "6"})
	for name, want := range map[string][]string{"[": {"1"}, "{": {"2"}, "": {"3", "5"}, "@": {"4"}, "`": {"\xff\r\n "}, "A B": {"6"}} {
		if got := head.Get(h, name); !slices.Equal(got, want) {
			t.Errorf("Get of %q: %q, want %q", name, got, want)
		}
	}
	for _, x := range [][2]string{{"k", "\u212a"}, {"\u212a", "K"}, {"s", "\u017f"}, {"\u00e4", "\u00c4"}, {"\xff", "\xfe"}} {
		if got := head.Get(made([3]string{}, [2]string{x[0], "1"}), x[1]); len(got) != 0 {
			t.Errorf("Get of %q, of a field %q: %q", x[1], x[0], got)
		}
	}
	many := made([3]string{"a", "b", "c"}, slices.Repeat([][2]string{{"x", "1"}, {"y", "2"}}, 500)...)
	if got := head.Get(many, "X"); !slices.Equal(got, slices.Repeat([]string{"1"}, 500)) {
		t.Errorf("Get of a name that is there 500 times: %d values", len(got))
	}
}

// The rules: what Get tells is its own.
func TestGetIsItsOwn(t *testing.T) {
	h := made([3]string{"a", "b", "c"}, [2]string{"x", "1"}, [2]string{"X", "2"})
	one, other := head.Get(h, "x"), head.Get(h, "x")
	one[0], one[1] = "other", "other"
	_ = append(one, "more")
	if want := []string{"1", "2"}; !slices.Equal(other, want) || !slices.Equal(head.Get(h, "x"), want) {
		t.Errorf("%q and %q, behind a change of another answer", other, head.Get(h, "x"))
	}
	h.Fields[0].Value = "3"
	if other[0] != "1" {
		t.Errorf("%q, behind a change of the head", other)
	}
}

// P1: every call answers at odd arguments, none of them small, too.
func TestEveryCallAnswers(t *testing.T) {
	for _, s := range []string{"", " ", ":", "\r\n", end, "\x00", "\xff\xfe", "\u00e4", strings.Repeat("a", math.MaxUint16), strings.Repeat(" ", math.MaxUint16), strings.Repeat("\r\n", math.MaxUint16), strings.Repeat("a:b\r\n", 9999) + end} {
		h := made([3]string{s, s, s}, slices.Repeat([][2]string{{s, s}}, 100)...)
		head.Read([]byte(s))
		head.Get(h, s)
		head.Token(s)
		if !head.Same(s, s) || head.Same(s, s+"x") {
			t.Errorf("Same of %.20q and itself", s)
		}
		head.Show(h)
		if err := head.Check(h); err != api.ErrHeadForm && err != api.ErrHeadLong {
			t.Errorf("Check of a head of %.20q: error %d", s, err)
		}
	}
}
