package base_test

import (
	"bytes"
	"encoding/base64"
	"math"
	"strings"
	"testing"

	"pendentive/api"
	"pendentive/base"
)

const alphabet = "ABCDEFGHIJKLMNOPQRSTUVWXYZabcdefghijklmnopqrstuvwxyz0123456789+/"

// pairs are bytes and their letters, whatever any other program tells.
var pairs = []struct{ bytes, letters string }{
	{"", ""},
	{"a", "YQ=="},
	{"ab", "YWI="},
	{"abc", "YWJj"},
	{"f", "Zg=="},
	{"fo", "Zm8="},
	{"foo", "Zm9v"},
	{"foob", "Zm9vYg=="},
	{"fooba", "Zm9vYmE="},
	{"foobar", "Zm9vYmFy"},
	{"the sample nonce", "dGhlIHNhbXBsZSBub25jZQ=="},
	{"\x00", "AA=="},
	{"\x00\x00", "AAA="},
	{"\x00\x00\x00", "AAAA"},
	{"\xff", "/w=="},
	{"\xff\xff", "//8="},
	{"\xff\xff\xff", "////"},
	{"\xff\xef\xbe", "/+++"},
	{"\xfb\xff", "+/8="},
	{"\x80\x80\x80\x80", "gICAgA=="},
	{"\xed\xa0\x80=", "7aCAPQ=="},
}

// sample is n bytes of all values.
func sample(n int) []byte {
	b := make([]byte, n)
	x := uint32(2463534242)
	for i := range b {
		x ^= x << 13
		x ^= x >> 17
		x ^= x << 5
		b[i] = byte(x >> 11)
	}
	return b
}

// checkRight holds every call against bytes and their letters.
func checkRight(t *testing.T, b []byte, s string) {
	t.Helper()
	if got := base.Put(b); got != s {
		t.Errorf("Put of %.40q: %.40q, want %.40q", b, got, s)
	}
	if got, err := base.Get(s); !bytes.Equal(got, b) || err != api.OK {
		t.Errorf("Get of %.40q: %.40q, %d, want %.40q", s, got, err, b)
	}
	if got := base.Size(len(b)); got != len(s) {
		t.Errorf("Size of %d: %d, want %d", len(b), got, len(s))
	}
	for n := len(b) - 4; n <= len(b)+4; n++ {
		if got := base.Has(s, n); got != (n == len(b)) {
			t.Errorf("Has of %.40q, which is %d bytes, and %d: %t", s, len(b), n, got)
		}
	}
}

// checkWrong asks that s is the letters of no bytes.
func checkWrong(t *testing.T, s string) {
	t.Helper()
	if got, err := base.Get(s); len(got) != 0 || err != api.ErrBaseForm {
		t.Errorf("Get of %.40q: %.40q, %d", s, got, err)
	}
	for n := -1; n <= len(s)+1; n++ {
		if base.Has(s, n) {
			t.Errorf("Has of %.40q and %d: true", s, n)
		}
	}
}

// P2.1: the document's examples, and others that are known.
func TestKnownLetters(t *testing.T) {
	for _, p := range pairs {
		checkRight(t, []byte(p.bytes), p.letters)
	}
	checkWrong(t, "YR==")
}

// P2.1: nil and empty are one.
func TestNothing(t *testing.T) {
	checkRight(t, nil, "")
	checkRight(t, []byte{}, "")
}

// P2.1: every number of bytes up to some hundreds, so each remainder by three, and some greater ones.
func TestEveryLength(t *testing.T) {
	all := sample(1<<16 + 2)
	for n := range 400 {
		checkRight(t, all[:n], base64.StdEncoding.EncodeToString(all[:n]))
	}
	for _, n := range []int{4095, 4096, 4097, 1 << 16, 1<<16 + 1, 1<<16 + 2} {
		checkRight(t, all[:n], base64.StdEncoding.EncodeToString(all[:n]))
	}
}

// P2.1: every byte's value, at each place of three, alone and among others.
func TestEveryValue(t *testing.T) {
	for v := range 256 {
		for n := 1; n <= 4; n++ {
			for at := range n {
				for _, fill := range []byte{0, 0x55, 0xaa, 255} {
					b := bytes.Repeat([]byte{fill}, n)
					b[at] = byte(v)
					checkRight(t, b, base64.StdEncoding.EncodeToString(b))
				}
			}
		}
	}
}

// P2.1: every letter stands for its place in the row, and each bit of a number has its place in the bytes.
func TestEveryLetter(t *testing.T) {
	for i := range 64 {
		one := alphabet[i : i+1]
		bits := uint32(i)<<18 | uint32(i)<<12 | uint32(i)<<6 | uint32(i)
		checkRight(t, []byte{byte(bits >> 16), byte(bits >> 8), byte(bits)}, strings.Repeat(one, 4))
		checkRight(t, []byte{byte(i << 2), 0, 0}, one+"AAA")
		checkRight(t, []byte{byte(i >> 4), byte(i << 4), 0}, "A"+one+"AA")
		checkRight(t, []byte{0, byte(i >> 2), byte(i << 6)}, "AA"+one+"A")
		checkRight(t, []byte{0, 0, byte(i)}, "AAA"+one)
	}
}

// P2.1: bits behind the last byte that aren't noughts, alone and behind whole groups.
func TestBitsBehind(t *testing.T) {
	for _, ahead := range []string{"", "foo", "foobar"} {
		for i := range 64 {
			one := alphabet[i : i+1]
			two := base.Put([]byte(ahead)) + "A" + one + "=="
			if i%16 == 0 {
				checkRight(t, append([]byte(ahead), byte(i>>4)), two)
			} else {
				checkWrong(t, two)
			}
			three := base.Put([]byte(ahead)) + "AA" + one + "="
			if i%4 == 0 {
				checkRight(t, append([]byte(ahead), 0, byte(i>>2)), three)
			} else {
				checkWrong(t, three)
			}
		}
	}
}

// P2.1: = too many, too few, or in the midst.
func TestFillers(t *testing.T) {
	for _, s := range []string{
		"=", "==", "===", "====", "=====", "========",
		"A===", "=A==", "==A=", "===A", "=AAA", "A=AA", "AA=A", "=AA=", "A=A=", "==AA", "A==A",
		"YQ", "YQ=", "YQ===", "YQ====", "YWI", "YWI==", "YWI===", "YWJj=", "YWJj==", "YWJj===", "YWJj====",
		"YQ==YQ==", "YQ==YWJj", "YWI=YWJj", "YWI=YQ==", "YWJjYQ==YWJj", "YQ==A", "YQ==AA", "YQ==AAA",
	} {
		checkWrong(t, s)
	}
}

// P2.1: a number of letters that isn't a multiple of four.
func TestWrongNumbers(t *testing.T) {
	for n := range 70 {
		for _, one := range []string{"A", "Q", "/"} {
			if n%4 != 0 {
				checkWrong(t, strings.Repeat(one, n))
			}
		}
	}
	for _, p := range pairs {
		for cut := 1; cut < 4 && cut < len(p.letters); cut++ {
			checkWrong(t, p.letters[cut:])
			checkWrong(t, p.letters[:len(p.letters)-cut])
		}
	}
}

// P2.1: each byte that is no letter, at each place, in place of a letter and beside it.
func TestNoLetters(t *testing.T) {
	for v := range 256 {
		if strings.IndexByte(alphabet, byte(v)) >= 0 || v == '=' {
			continue
		}
		for _, s := range []string{"YWJj", "YWI=", "YQ==", "YWJjYWJj", "YWJjYWI=", "YWJjYQ=="} {
			for at := range len(s) {
				changed := []byte(s)
				changed[at] = byte(v)
				checkWrong(t, string(changed))
			}
			for at := range len(s) + 1 {
				checkWrong(t, s[:at]+string([]byte{byte(v)})+s[at:])
				checkWrong(t, s[:at]+strings.Repeat(string([]byte{byte(v)}), 4)+s[at:])
			}
		}
	}
}

// P2.1: line ends and blanks, wherever others let them pass; letters of other rows; and runes that are longer than a byte, those among them whose lowest byte is a letter's or that of =.
func TestForeignLetters(t *testing.T) {
	for _, s := range []string{
		"\n", "\r\n\r\n", "YQ==\n", "YQ==\r\n", "YWJj\n", "YWJj\r\n\r\n", "\nYWJ", "Y\nQ=", "YQ\n=", "YQ=\n", "YWJj\n\n\n\n", "    ", "YWJ ", " YWJ",
		"____", "----", "-_-_", "AA-_", ".AAA", "AA,,",
		"\u00e9AA", "AA\u00e9", "A\u00e9=", "\u00e9==", "\u0141\u0141", "\u0141AA", "AA\u0141", "\u0141==", "\u012b\u012f", "A\uff21", "\uff21A", "\U00010041", "YQ\u013d", "YWI\u013d", "Y\u0151==", "\ufffdA", "\ufffd=", "\xff\xff\xff\xff", "AAA\xff", "AA\xc3=", "\xed\xa0\x80A", "\x00\x00\x00\x00", "AAA\x00",
	} {
		checkWrong(t, s)
	}
}

// P2.1: Size at its bounds, and far beyond.
func TestSize(t *testing.T) {
	for _, c := range []struct{ n, want int }{
		{math.MinInt, 0}, {math.MinInt32, 0}, {-1 << 30, 0}, {-4, 0}, {-3, 0}, {-2, 0}, {-1, 0}, {0, 0},
		{1, 4}, {2, 4}, {3, 4}, {4, 8}, {5, 8}, {6, 8}, {7, 12}, {16, 24}, {20, 28},
		{1<<30 - 4, 1431655760}, {1<<30 - 3, 1431655764}, {1<<30 - 1, 1431655764}, {1 << 30, 1431655768},
		{1<<30 + 1, 0}, {1<<30 + 2, 0}, {math.MaxInt32, 0}, {math.MaxInt - 2, 0}, {math.MaxInt - 1, 0}, {math.MaxInt, 0},
	} {
		if got := base.Size(c.n); got != c.want {
			t.Errorf("Size of %d: %d, want %d", c.n, got, c.want)
		}
	}
}

// P2.1: Has at numbers that are none of bytes, or far beyond those of the letters.
func TestHasFarOff(t *testing.T) {
	for _, s := range []string{"", "YQ==", "YWI=", "YWJj", "YR==", "\n"} {
		for _, n := range []int{math.MinInt, math.MinInt + 1, math.MinInt32, -4, -3, -2, -1, 4, 5, 6, 1 << 30, 1<<30 + 1, math.MaxInt32, 1 << 32, 1<<32 + 1, 1<<32 + 2, 1<<32 + 3, math.MaxInt - 1, math.MaxInt} {
			if base.Has(s, n) {
				t.Errorf("Has of %q and %d: true", s, n)
			}
		}
	}
}

// P2.2: of all texts of four, those that are letters of bytes are as many as there are such bytes, and become themselves again.
func TestEveryFour(t *testing.T) {
	var count [4]int
	try := func(s string) {
		if b, err := base.Get(s); err == api.OK {
			count[len(b)]++
			if base.Put(b) != s {
				t.Fatalf("Put of Get of %q: %q", s, base.Put(b))
			}
		}
	}
	for a := range 64 {
		for b := range 64 {
			two := alphabet[a:a+1] + alphabet[b:b+1]
			try(two + "==")
			for c := range 64 {
				three := two + alphabet[c:c+1]
				try(three + "=")
				try(three + alphabet[(a+b+c)%64:][:1])
			}
		}
	}
	if want := [4]int{0, 1 << 8, 1 << 16, 1 << 18}; count != want {
		t.Errorf("letters of one, two and three bytes: %v, want %v", count, want)
	}
}

// P2.2: another letter at any one place is other bytes, or none.
func TestOneLetterOther(t *testing.T) {
	for n := range 8 {
		b := sample(n)
		s := base.Put(b)
		for at := range len(s) {
			for v := range 256 {
				changed := []byte(s)
				changed[at] = byte(v)
				got, err := base.Get(string(changed))
				if err == api.OK && (base.Put(got) != string(changed) || (string(changed) == s) != bytes.Equal(got, b)) {
					t.Errorf("Get of %q: %q", changed, got)
				}
			}
		}
	}
}

// The rules: what is handed in isn't changed, its spare room included, and spare room has no weight.
func TestArgumentsStay(t *testing.T) {
	for n := range 100 {
		room := sample(n + 20)
		before := bytes.Clone(room)
		if got, want := base.Put(room[:n]), base64.StdEncoding.EncodeToString(before[:n]); got != want {
			t.Errorf("Put of %d bytes with spare room: %q, want %q", n, got, want)
		}
		if !bytes.Equal(room, before) {
			t.Errorf("Put of %d bytes: what was handed in is changed", n)
		}
	}
}

// The rules: what is handed out is new memory.
func TestAnswersAreNew(t *testing.T) {
	given := []byte("foobar")
	s := base.Put(given)
	copy(given, "xxxxxx")
	if s != "Zm9vYmFy" {
		t.Errorf("Put keeps what it was given: %q", s)
	}
	one, _ := base.Get("Zm9vYg==")
	other, _ := base.Get("Zm9vYg==")
	for i := range one[:cap(one)] {
		one[:cap(one)][i] = 0
	}
	if again, _ := base.Get("Zm9vYg=="); string(other) != "foob" || string(again) != "foob" {
		t.Errorf("Get hands one memory out twice: %q, %q", other, again)
	}
}

// P1, P2.1 and P2.2: every call answers, whatever the text and the number.
func FuzzGet(f *testing.F) {
	for _, p := range pairs {
		f.Add(p.letters, len(p.bytes))
	}
	for _, s := range []string{"=", "====", "YR==", "YWJ=", "YQ==\n", "\u0141\u0141", "\xff\xff\xff\xff", "YQ==YQ=="} {
		f.Add(s, -1)
	}
	f.Fuzz(func(t *testing.T, s string, n int) {
		want, failed := base64.StdEncoding.Strict().DecodeString(s)
		if failed != nil || strings.ContainsAny(s, "\r\n") {
			checkWrong(t, s)
			if base.Has(s, n) {
				t.Errorf("Has of %q and %d: true", s, n)
			}
			return
		}
		checkRight(t, want, s)
		if base.Has(s, n) != (n == len(want)) {
			t.Errorf("Has of %q and %d: %t", s, n, base.Has(s, n))
		}
	})
}

// P1, P2.1 and P2.2: every call answers, whatever the bytes, and they become themselves again.
func FuzzPut(f *testing.F) {
	for _, p := range pairs {
		f.Add([]byte(p.bytes), len(p.bytes))
	}
	f.Add([]byte(nil), math.MinInt)
	f.Add([]byte("abc"), math.MaxInt)
	f.Fuzz(func(t *testing.T, b []byte, n int) {
		checkRight(t, b, base64.StdEncoding.EncodeToString(b))
		want := 0
		if n >= 1 && n <= 1<<30 {
			want = base64.StdEncoding.EncodedLen(n)
		}
		if got := base.Size(n); got != want {
			t.Errorf("Size of %d: %d, want %d", n, got, want)
		}
	})
}
