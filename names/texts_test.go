package names_test

import (
	"math"
	"slices"
	"strconv"
	"strings"
	"testing"

	"pendentive/api"
	"pendentive/names"
)

// isOne asks for the one value that there is.
func isOne(t *testing.T, values []string, want string, wantOK bool) {
	t.Helper()
	handed, room := roomy(values)
	if got, ok := names.One(handed); got != want || ok != wantOK {
		t.Errorf("One of %.200q: %.80q, %t; want %.80q, %t", shown(values), got, ok, want, wantOK)
	}
	stays(t, "One", values, room)
}

// isFirst asks for the first of some that others have.
func isFirst(t *testing.T, some, others []string, want string, wantOK bool) {
	t.Helper()
	handed, room := roomy(some)
	handedOthers, roomOthers := roomy(others)
	if got, ok := names.First(handed, handedOthers); got != want || ok != wantOK {
		t.Errorf("First of %.200q, of %.200q: %.80q, %t; want %.80q, %t", shown(some), shown(others), got, ok, want, wantOK)
	}
	stays(t, "First", some, room)
	stays(t, "First", others, roomOthers)
}

// isOnce asks whether each of some texts is there once.
func isOnce(t *testing.T, texts []string, want bool) {
	t.Helper()
	handed, room := roomy(texts)
	if got := names.Once(handed); got != want {
		t.Errorf("Once of %.200q: %t", shown(texts), got)
	}
	stays(t, "Once", texts, room)
}

// everyList tells all lists of up to so many of some texts.
func everyList(texts []string, most int, tell func([]string)) {
	tell(nil)
	if most == 0 {
		return
	}
	for _, text := range texts {
		everyList(texts, most-1, func(behind []string) { tell(append([]string{text}, behind...)) })
	}
}

// P6.2: One of no value, of one, of an empty one, and of more.
func TestOne(t *testing.T) {
	isOne(t, nil, "", false)
	isOne(t, []string{}, "", false)
	for _, value := range []string{"a", "13", "a, b", " ", " a ", "", ",", "a b", "\x00", "\xff", "\u00e4", strings.Repeat("x", 5000)} {
		isOne(t, []string{value}, value, true)
		for n := 2; n <= 5; n++ {
			isOne(t, slices.Repeat([]string{value}, n), "", false)
		}
		isOne(t, []string{value, ""}, "", false)
		isOne(t, []string{"", value}, "", false)
		isOne(t, []string{value, "b"}, "", false)
		isOne(t, []string{"b", "c", value}, "", false)
	}
	isOne(t, []string{"A", "a"}, "", false)
}

// P6.2: First, where there is nothing, or nothing that both have.
func TestFirstNone(t *testing.T) {
	for _, some := range [][]string{nil, {}, {"a"}, {"a", "b"}, {""}, {"ab"}, {"a", "a"}, {"a,b"}, {" a"}, {"\xff"}} {
		isFirst(t, some, nil, "", false)
		isFirst(t, nil, some, "", false)
		isFirst(t, some, []string{}, "", false)
		isFirst(t, some, []string{"x"}, "", false)
		isFirst(t, some, []string{"aa", "bb", "b ", "\xfe", "a, b", "ba"}, "", false)
	}
}

// P6.2: First goes by the order of some, whatever the order of the others is.
func TestFirst(t *testing.T) {
	for _, x := range []struct {
		some, others []string
		want         string
	}{
		{[]string{"a"}, []string{"a"}, "a"}, {[]string{"a", "b"}, []string{"b", "a"}, "a"}, {[]string{"a", "b"}, []string{"a", "b"}, "a"},
		{[]string{"a", "b", "c"}, []string{"c", "b", "a"}, "a"}, {[]string{"x", "b", "a"}, []string{"a", "b"}, "b"}, {[]string{"x", "y", "a"}, []string{"a", "z"}, "a"},
		{[]string{"x", "a"}, []string{"y", "z", "a"}, "a"}, {[]string{"a", "x"}, []string{"y", "z", "a"}, "a"}, {[]string{"x", "y", "z"}, []string{"z"}, "z"}, {[]string{"z", "y", "x"}, []string{"x", "y"}, "y"},
		{[]string{"b", "b", "a"}, []string{"a", "a", "b", "b"}, "b"}, {[]string{"x", "x", "a", "a"}, []string{"a", "y", "a"}, "a"}, {[]string{"chat.v2", "chat"}, []string{"chat", "chat.v1", "chat.v2"}, "chat.v2"},
		{[]string{"a b", "a"}, []string{"a", "a b"}, "a b"}, {[]string{"\xff", "a"}, []string{"a", "\xff"}, "\xff"}, {[]string{"a\x00", "a"}, []string{"a"}, "a"},
	} {
		isFirst(t, x.some, x.others, x.want, true)
	}
	isFirst(t, []string{"", "a"}, []string{"a", ""}, "", true)
	isFirst(t, []string{"a", ""}, []string{""}, "", true)
	isFirst(t, []string{"", "a"}, []string{"a"}, "a", true)
}

// P6.2: First goes letter by letter: one in another case is another one.
func TestFirstOtherCase(t *testing.T) {
	isFirst(t, []string{"A"}, []string{"a"}, "", false)
	isFirst(t, []string{"a"}, []string{"A"}, "", false)
	isFirst(t, []string{"Chat", "CHAT"}, []string{"chat", "cHAT"}, "", false)
	isFirst(t, []string{"A", "a"}, []string{"a"}, "a", true)
	isFirst(t, []string{"a", "A"}, []string{"A", "b"}, "A", true)
	isFirst(t, []string{"a", "A"}, []string{"A", "a"}, "a", true)
	for _, x := range [][2]string{{"\u00e4", "\u00c4"}, {"k", "\u212a"}, {"\u00e4", "a\u0308"}, {"\xff", "\ufffd"}, {"\xff", "\xfe"}} {
		isFirst(t, x[:1], x[1:], "", false)
		isFirst(t, x[1:], x[:1], "", false)
	}
}

// P6.2: First of every two lists of up to four of some texts, by going through both.
func TestFirstEveryList(t *testing.T) {
	everyList([]string{"a", "A", "b", ""}, 4, func(some []string) {
		everyList([]string{"a", "B", "", "b"}, 3, func(others []string) {
			at := slices.IndexFunc(some, func(s string) bool { return slices.Contains(others, s) })
			if at < 0 {
				isFirst(t, some, others, "", false)
			} else {
				isFirst(t, some, others, some[at], true)
			}
		})
	})
}

// P6.2: Once of nothing, of one, of texts that are told apart, and of some that are there twice, next to each other and far apart.
func TestOnce(t *testing.T) {
	for _, texts := range [][]string{
		nil, {}, {"a"}, {""}, {"\xff"}, {"a", "b"}, {"a", "b", "c"}, {"a", ""}, {"", "a"}, {"a", "A"}, {"chat", "Chat", "CHAT", "cHAT"},
		{"a", "aa", "aaa"}, {"ab", "ba"}, {"a", " a", "a ", " a "}, {"a", "a\x00"}, {"a,b", "a", "b", "b,a"}, {"\xff", "\xfe", "\ufffd"}, {"k", "K", "\u212a"}, {"\u00e4", "a\u0308", "\u00c4"}, {"", " ", "\t", ","},
	} {
		isOnce(t, texts, true)
		for i, text := range texts {
			for at := range len(texts) + 1 {
				isOnce(t, slices.Insert(slices.Clone(texts), at, texts[i]), false)
				isOnce(t, slices.Insert(slices.Clone(texts), at, text, "other", text), false)
			}
		}
	}
	for _, texts := range [][]string{{"a", "a"}, {"", ""}, {"a", "", "b", ""}, {"a", "a", "a"}, {"a", "b", "a"}, {"a", "b", "b"}, {"b", "b", "a"}, {"a", "b", "c", "d", "a"}, {"a", "A", "a"}, {"a", "b", "a", "b"}, {" ", " "}, {"\xff", "a", "\xff"}} {
		isOnce(t, texts, false)
	}
}

// P6.2: Once of every list of up to five of some texts, by holding each against each.
func TestOnceEveryList(t *testing.T) {
	everyList([]string{"a", "A", "b", ""}, 5, func(texts []string) {
		want := true
		for i, one := range texts {
			for _, other := range texts[i+1:] {
				want = want && one != other
			}
		}
		isOnce(t, texts, want)
	})
}

// The rules: what was handed in may be changed behind a call: no call keeps it.
func TestNothingIsKept(t *testing.T) {
	some, others := []string{"a", "b"}, []string{"b"}
	isFirst(t, some, others, "b", true)
	one, _ := names.First(some, others)
	only, _ := names.One(others)
	some[1], others[0] = "c", "a"
	if one != "b" || only != "b" {
		t.Errorf("%q and %q, that were b, behind a change of what was handed in", one, only)
	}
	isFirst(t, some, others, "a", true)
	isOne(t, others, "a", true)
	isOnce(t, some, true)
	some[1] = "a"
	isOnce(t, some, false)
}

// P1: every call ends in good time at many texts, too: a length squared would be 2^36 steps.
func TestManyTexts(t *testing.T) {
	const count = 1 << 18
	texts, others := make([]string, count), make([]string, count)
	for i := range count {
		texts[i], others[i] = "t"+strconv.Itoa(i), "o"+strconv.Itoa(i)
	}
	isOnce(t, texts, true)
	isFirst(t, texts, others, "", false)
	others[0] = texts[count-1]
	isFirst(t, texts, others, texts[count-1], true)
	isOnce(t, append(texts, texts[0]), false)
	isOne(t, texts, "", false)
	lists(t, texts, texts)
	lists(t, []string{strings.Join(texts, ", ")}, texts)
	has(t, strings.ToUpper(texts[count-1]), true, texts...)
	has(t, "t", false, texts...)
}

// P1: every call answers at odd arguments, none of them small, too.
func TestEveryCallAnswers(t *testing.T) {
	for _, s := range []string{"", " ", ",", ", ,", "a b", "\r\n", "\x00", "\xff\xfe", "\u00e4", strings.Repeat("a", math.MaxUint16), strings.Repeat(" ", math.MaxUint16), strings.Repeat(",", math.MaxUint16), strings.Repeat("a,", math.MaxUint16), strings.Repeat("a ", math.MaxUint16), strings.Repeat("\xff,", math.MaxUint16)} {
		for n := range 4 {
			values := slices.Repeat([]string{s}, n)
			if tokens, err := names.List(values...); err != api.OK && err != api.ErrNameForm || err != api.OK && tokens != nil {
				t.Errorf("List of %d times %.20q: %d tokens, error %d", n, s, len(tokens), err)
			}
			if want := n > 0 && s != "" && strings.Trim(s, "a") == ""; names.Has(s, values...) != want {
				t.Errorf("Has of %.20q, of it %d times: %t", s, n, !want)
			}
			one, first := "", ""
			if n == 1 {
				one = s
			}
			if n > 0 {
				first = s
			}
			isOne(t, values, one, n == 1)
			isOnce(t, values, n < 2)
			isFirst(t, values, []string{"x", s}, first, n > 0)
		}
	}
}
