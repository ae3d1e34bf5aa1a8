package close_test

import (
	"math"
	"slices"
	"strings"
	"testing"
	"unicode/utf8"
	"unsafe"

	"pendentive/api"
	"pendentive/close"
)

// letters are words that are letters: of each size, the least and the greatest of it, and those next to what is none.
var letters = []string{
	"", "a", "bye", "\x00", "\x7f", "\xc2\x80", "\xc3\xa4", "\xdf\xbf", "\xe0\xa0\x80", "\xe2\x82\xac", "\xed\x9f\xbf", "\xee\x80\x80",
	"\xef\xbf\xbd", "\xef\xbf\xbf", "\xf0\x90\x80\x80", "\xf0\x9f\x98\x80", "\xf4\x8f\xbf\xbf", "a\xc3\xa4\xe2\x82\xac\xf0\x9f\x98\x80z",
	"\x03", "\x03\x7f", "going away", " ", "\r\n", "\xef\xbb\xbf",
}

// none are words that are no letters.
var none = []string{
	// A byte alone that begins no letter.
	"\x80", "\xbf", "\xff", "\xfe", "\xf5\x80\x80\x80", "\xf8\x88\x80\x80\x80", "\xc3\xa4\xa4",
	// A letter cut off at the end.
	"\xc2", "\xdf", "\xe2", "\xe2\x82", "\xed\x9f", "\xf0", "\xf0\x9f", "\xf0\x9f\x98", "\xf4\x8f\xbf", "bye\xe2\x82",
	// One cut off by another.
	"\xc3a", "\xe2\x82a", "\xf0\x9f\x98a", "\xe2\xe2\x82\xac",
	// One that is longer than it need be.
	"\xc0", "\xc0\x80", "\xc1\xbf", "\xe0\x80\x80", "\xe0\x9f\xbf", "\xf0\x80\x80\x80", "\xf0\x8f\xbf\xbf",
	// From D800 to DFFF, both halves of what others take for one letter too.
	"\xed\xa0", "\xed\xa0\x80", "\xed\xaf\xbf", "\xed\xb0\x80", "\xed\xbf\xbf", "\xed\xa0\xbd\xed\xb8\x80",
	// Above 10FFFF.
	"\xf4\x90\x80\x80", "\xf4\xbf\xbf\xbf", "\xf7\xbf\xbf\xbf",
}

// few are codes that may be sent: each end of each span, and some within.
var few = []int{1000, 1001, 1002, 1003, 1007, 1008, 1009, 1010, 1011, 3000, 3001, 3327, 3328, 4000, 4095, 4096, 4998, 4999}

// wrongCodes are codes that may not, of two bytes; 0 isn't among them.
var wrongCodes = []int{1, 125, 255, 256, 998, 999, 1004, 1005, 1006, 1012, 1015, 2000, 2998, 2999, 5000, 5001, 32767, 32768, 65534, 65535}

// otherCodes are codes that may not, and aren't of two bytes.
var otherCodes = []int{
	-1, -2, -1000, -3000, -65536, 1000 - 65536, 3000 - 65536, 65536, 65537, 65536 + 1000, 65536 + 1001, 65536 + 4999, 1<<17 + 1000, 1<<24 + 1000, 1<<32 + 1000, 1 << 32,
	math.MinInt32, math.MaxInt32, math.MinInt, math.MinInt + 1000, math.MaxInt,
}

// tooMany are how many bytes words can't have.
var tooMany = []int{124, 125, 126, 127, 128, 255, 256, 257, 65535, 65536, 65536 + 10, 1 << 17, 1 << 20}

// bytesOf is an end's data, told in another way than the program's.
func bytesOf(code int, words string) string {
	return string([]byte{byte(code / 256), byte(code % 256)}) + words
}

// fill is words of n bytes, the last ones those of end, and letters ahead of them.
func fill(n int, end string) string { return strings.Repeat("x", n-len(end)) + end }

// plainPut is an end's data, told case by case.
func plainPut(code int, words string) (string, api.Errno) {
	switch {
	case code == 0 && len(words) == 0:
		return "", api.OK
	case !maySend(code):
		return "", api.ErrCloseForm
	case len(words) >= 124:
		return "", api.ErrCloseForm
	case !utf8.ValidString(words):
		return "", api.ErrCloseText
	}
	return bytesOf(code, words), api.OK
}

// plainGet is what an end's data is, told case by case.
func plainGet(data string) (int, string, api.Errno) {
	switch {
	case len(data) == 0:
		return 1005, "", api.OK
	case len(data) == 1 || len(data) >= 126:
		return 0, "", api.ErrCloseForm
	}
	code := int(data[0])*256 + int(data[1])
	switch {
	case !maySend(code):
		return 0, "", api.ErrCloseForm
	case !utf8.ValidString(data[2:]):
		return 0, "", api.ErrCloseText
	}
	return code, data[2:], api.OK
}

func checkPut(t *testing.T, code int, words, data string, err api.Errno) {
	t.Helper()
	if got, gotErr := close.Put(code, words); got != data || gotErr != err {
		t.Errorf("Put(%d, %d bytes %.40q): %d bytes %.40q, error %d, want %.40q, error %d", code, len(words), words, len(got), got, gotErr, data, err)
	}
}

func checkGet(t *testing.T, data string, code int, words string, err api.Errno) {
	t.Helper()
	if got, gotWords, gotErr := close.Get(data); got != code || gotWords != words || gotErr != err {
		t.Errorf("Get of %d bytes %.40q: %d, %.40q, error %d, want %d, %.40q, error %d", len(data), data, got, gotWords, gotErr, code, words, err)
	}
}

// checkBoth asks that an end's data is put and got as it is.
func checkBoth(t *testing.T, code int, words string) {
	t.Helper()
	data := bytesOf(code, words)
	checkPut(t, code, words, data, api.OK)
	checkGet(t, data, code, words, api.OK)
}

// checkNeither asks that a code and words are neither put nor got; the code is of two bytes.
func checkNeither(t *testing.T, code int, words string, err api.Errno) {
	t.Helper()
	checkPut(t, code, words, "", err)
	checkGet(t, bytesOf(code, words), 0, "", err)
}

// The lists that the tests lean on are what they are said to be.
func TestLists(t *testing.T) {
	for _, words := range letters {
		if !utf8.ValidString(words) {
			t.Errorf("%q is no letters", words)
		}
	}
	for _, words := range none {
		if utf8.ValidString(words) {
			t.Errorf("%q is letters", words)
		}
	}
	for _, code := range slices.Concat(wrongCodes, otherCodes) {
		if maySend(code) || code == 0 {
			t.Errorf("%d isn't wrong", code)
		}
	}
	for _, code := range few {
		if !maySend(code) {
			t.Errorf("%d may not be sent", code)
		}
	}
}

// P11.1: the document's examples, and others with their bytes written out.
func TestKnown(t *testing.T) {
	for _, x := range []struct {
		code        int
		words, data string
	}{
		{1000, "", "\x03\xe8"}, {1001, "", "\x03\xe9"}, {1002, "", "\x03\xea"}, {1003, "", "\x03\xeb"}, {1007, "", "\x03\xef"}, {1008, "", "\x03\xf0"},
		{1011, "", "\x03\xf3"}, {3000, "", "\x0b\xb8"}, {3071, "", "\x0b\xff"}, {3072, "", "\x0c\x00"}, {4999, "", "\x13\x87"}, {1000, "bye", "\x03\xe8bye"},
		{4999, "\xc3\xa4", "\x13\x87\xc3\xa4"}, {1001, "\x00", "\x03\xe9\x00"},
	} {
		checkPut(t, x.code, x.words, x.data, api.OK)
		checkGet(t, x.data, x.code, x.words, api.OK)
	}
	checkGet(t, "\x03\xed", 0, "", api.ErrCloseForm)
	checkPut(t, 1005, "", "", api.ErrCloseForm)
	// The lowest byte first would be a code that may be sent.
	checkGet(t, "\xe8\x03", 0, "", api.ErrCloseForm)
	checkGet(t, "\xb8\x0b", 0, "", api.ErrCloseForm)
}

// P11.1: of no code and no words nothing is put, and of nothing no code is got; of no code there are no words.
func TestNothing(t *testing.T) {
	checkPut(t, 0, "", "", api.OK)
	checkGet(t, "", api.CodeNone, "", api.OK)
	checkGet(t, "", 1005, "", api.OK)
	for _, words := range slices.Concat(letters[1:], none) {
		checkPut(t, 0, words, "", api.ErrCloseForm)
		checkGet(t, "\x00\x00"+words, 0, "", api.ErrCloseForm)
	}
	for _, n := range tooMany {
		checkPut(t, 0, fill(n, ""), "", api.ErrCloseForm)
		checkPut(t, 0, fill(n, "\xff"), "", api.ErrCloseForm)
	}
	checkGet(t, "\x00\x00", 0, "", api.ErrCloseForm)
}

// P11.1: every code that may be sent, with no words, with some, with as many as there can be, and with one more; with those that are no letters.
func TestEachCode(t *testing.T) {
	for code := range sent {
		for _, words := range []string{"", "a", "bye \xe2\x82\xac", fill(122, ""), fill(123, "\xc3\xa4")} {
			checkBoth(t, code, words)
		}
		checkNeither(t, code, "\xff", api.ErrCloseText)
		checkNeither(t, code, fill(123, "\xe2\x82"), api.ErrCloseText)
		checkNeither(t, code, fill(124, ""), api.ErrCloseForm)
		checkNeither(t, code, fill(124, "\xff"), api.ErrCloseForm)
	}
}

// P11.1: every number that may not be sent; 0 with words alone.
func TestEachOther(t *testing.T) {
	for _, code := range unsent {
		for _, words := range []string{"", "a", "\xff", fill(123, ""), fill(124, ""), fill(124, "\xff")} {
			if code != 0 || words != "" {
				checkPut(t, code, words, "", api.ErrCloseForm)
			}
		}
	}
}

// P11.1: two bytes with every code, and words behind them, letters or none.
func TestEachTwoBytes(t *testing.T) {
	for v := range 1 << 16 {
		two := bytesOf(v, "")
		if !maySend(v) {
			for _, words := range []string{"", "a", "\xff", fill(123, ""), fill(123, "\xe2\x82")} {
				checkGet(t, two+words, 0, "", api.ErrCloseForm)
			}
			continue
		}
		checkGet(t, two, v, "", api.OK)
		checkGet(t, two+"a\xc3\xa4", v, "a\xc3\xa4", api.OK)
		checkGet(t, two+"a\xc3", 0, "", api.ErrCloseText)
	}
}

// P11.1: one byte, whichever it is.
func TestOneByte(t *testing.T) {
	for v := range 256 {
		checkGet(t, string([]byte{byte(v)}), 0, "", api.ErrCloseForm)
	}
}

// P11.1: words of each size up to the most, and of more, letters all, or none at the end, at the beginning, or between.
func TestSizes(t *testing.T) {
	for _, code := range few {
		for n := range 124 {
			checkBoth(t, code, fill(n, ""))
			if n > 0 {
				checkNeither(t, code, fill(n, "\xff"), api.ErrCloseText)
				checkNeither(t, code, "\xff"+fill(n-1, ""), api.ErrCloseText)
				checkNeither(t, code, fill(n, "\xe2"), api.ErrCloseText)
			}
		}
		for _, n := range tooMany {
			checkNeither(t, code, fill(n, ""), api.ErrCloseForm)
			checkNeither(t, code, fill(n, "\xff"), api.ErrCloseForm)
			checkNeither(t, code, "\xff"+fill(n-1, ""), api.ErrCloseForm)
			checkNeither(t, code, fill(n, "\xe2\x82"), api.ErrCloseForm)
		}
	}
}

// P11.1: 123 is how many bytes words have at most, not how many letters, and a letter that it cuts is none.
func TestBytesNotLetters(t *testing.T) {
	for _, letter := range []string{"\x00", "\xc3\xa4", "\xe2\x82\xac", "\xf0\x9f\x98\x80"} {
		whole := strings.Repeat(letter, 124)
		for n := range len(whole) + 1 {
			words := whole[:n]
			switch {
			case n > 123:
				checkNeither(t, 1000, words, api.ErrCloseForm)
			case n%len(letter) != 0:
				checkNeither(t, 1000, words, api.ErrCloseText)
			default:
				checkBoth(t, 1000, words)
			}
		}
	}
}

// P11.1: words that are letters, alone, between others, and behind as many as there can be.
func TestLetters(t *testing.T) {
	for _, words := range letters {
		for _, code := range few {
			checkBoth(t, code, words)
			checkBoth(t, code, "a"+words+"z")
			checkBoth(t, code, words+words)
			checkBoth(t, code, fill(123, words))
			checkNeither(t, code, fill(124, words), api.ErrCloseForm)
		}
		for _, code := range wrongCodes {
			checkNeither(t, code, words, api.ErrCloseForm)
			checkNeither(t, code, fill(123, words), api.ErrCloseForm)
			checkNeither(t, code, fill(124, words), api.ErrCloseForm)
		}
		for _, code := range otherCodes {
			checkPut(t, code, words, "", api.ErrCloseForm)
		}
	}
}

// P11.1: words that are no letters are told behind what is wrong with the code, or with how many bytes there are.
func TestNoLetters(t *testing.T) {
	for _, words := range none {
		for _, code := range few {
			for _, in := range []string{words, "a" + words, "\xc3\xa4" + words + "z", fill(123, words), words + fill(123-len(words), "")} {
				checkNeither(t, code, in, api.ErrCloseText)
			}
			checkNeither(t, code, fill(124, words), api.ErrCloseForm)
			checkNeither(t, code, words+fill(124-len(words), ""), api.ErrCloseForm)
		}
		for _, code := range wrongCodes {
			checkNeither(t, code, words, api.ErrCloseForm)
			checkNeither(t, code, fill(123, words), api.ErrCloseForm)
			checkNeither(t, code, fill(124, words), api.ErrCloseForm)
		}
		for _, code := range otherCodes {
			checkPut(t, code, words, "", api.ErrCloseForm)
			checkPut(t, code, fill(124, words), "", api.ErrCloseForm)
		}
	}
}

// P11.1: each byte, and each two, as words.
func TestEveryWords(t *testing.T) {
	for a := range 256 {
		checkAgainst(t, 1000, string([]byte{byte(a)}))
		for b := range 256 {
			checkAgainst(t, 3000, string([]byte{byte(a), byte(b)}))
		}
	}
}

// checkAgainst holds Put and Get of a code and words, and Get of the words alone, against what is told case by case.
func checkAgainst(t *testing.T, code int, words string) {
	t.Helper()
	data, err := plainPut(code, words)
	checkPut(t, code, words, data, err)
	for _, in := range []string{bytesOf(code&0xffff, words), words, data} {
		gotCode, gotWords, err := plainGet(in)
		checkGet(t, in, gotCode, gotWords, err)
	}
}

// P11.1: what Put makes is got as it was, and what Get tells is put as it was; of no code, nothing.
func TestAgain(t *testing.T) {
	for code := range sent {
		for _, words := range letters {
			data, err := close.Put(code, words)
			if err != api.OK {
				t.Fatalf("Put(%d, %q): error %d", code, words, err)
			}
			gotCode, gotWords, err := close.Get(data)
			if gotCode != code || gotWords != words || err != api.OK {
				t.Fatalf("Put(%d, %q) is got as %d, %q, error %d", code, words, gotCode, gotWords, err)
			}
			if again, err := close.Put(gotCode, gotWords); again != data || err != api.OK {
				t.Fatalf("%q, got and put again: %q, error %d", data, again, err)
			}
		}
	}
	data, _ := close.Put(0, "")
	checkGet(t, data, api.CodeNone, "", api.OK)
}

// The rules: what is handed out is new memory: neither data nor words are changed by what happens to those they were made of.
func TestNewMemory(t *testing.T) {
	for _, words := range []string{"a", "bye", "\xe2\x82\xac", fill(123, "")} {
		room := []byte(words)
		data, _ := close.Put(1000, unsafe.String(&room[0], len(room)))
		if string(room) != words {
			t.Errorf("Put changed %q", words)
		}
		clear(room)
		if data != "\x03\xe8"+words {
			t.Errorf("Put kept the words %q", words)
		}
		room = []byte("\x03\xe9" + words)
		code, got, _ := close.Get(unsafe.String(&room[0], len(room)))
		if string(room) != "\x03\xe9"+words {
			t.Errorf("Get changed %q", words)
		}
		clear(room)
		if code != 1001 || got != words {
			t.Errorf("Get kept the words %q", words)
		}
	}
}

// The rules: no call knows of those ahead of it.
func TestNothingKept(t *testing.T) {
	for range 3 {
		checkBoth(t, 1001, "bye")
		checkPut(t, 0, "", "", api.OK)
		checkNeither(t, 1005, "bye", api.ErrCloseForm)
		checkGet(t, "", api.CodeNone, "", api.OK)
		checkNeither(t, 1000, "\xc3", api.ErrCloseText)
		checkBoth(t, 1000, "")
		checkNeither(t, 4000, "\xa4", api.ErrCloseText)
	}
}

// P1 and P11.1: whatever comes, Put and Get answer, none panics, and the error is the one named first.
func FuzzData(f *testing.F) {
	for i, words := range slices.Concat(letters, none) {
		f.Add(few[i%len(few)], words)
		f.Add(wrongCodes[i%len(wrongCodes)], fill(124, words))
		f.Add(otherCodes[i%len(otherCodes)], words)
		f.Add(0, words)
	}
	f.Fuzz(func(t *testing.T, code int, words string) {
		checkAgainst(t, code, words)
		checkAgainst(t, 3000+int(uint(code)%2000), words)
		if got := close.Valid(code); got != maySend(code) {
			t.Errorf("Valid(%d): %t", code, got)
		}
		if got := close.Code(api.Errno(code)); got != endOf(code) {
			t.Errorf("Code(%d): %d", code, got)
		}
		checkAcross(t, code)
	})
}
