package names_test

import (
	"regexp"
	"slices"
	"strings"
	"testing"

	"pendentive/api"
	"pendentive/names"
)

// tokenBytes are those that a token may have.
const tokenBytes = "abcdefghijklmnopqrstuvwxyzABCDEFGHIJKLMNOPQRSTUVWXYZ0123456789!#$%&'*+-.^_`|~"

// spare stands in the room behind lists that are handed in.
var spare = []string{"spare", "room"}

// roomy is a copy of texts with spare room behind, and all of it.
func roomy(texts []string) (handed, room []string) {
	room = slices.Concat(texts, spare)
	return room[:len(texts)], room
}

// shown is what a failure tells of texts: the first ones, for there may be very many.
func shown(texts []string) []string { return texts[:min(len(texts), 8)] }

// stays asks that what was handed in is as it was, spare room included.
func stays(t *testing.T, call string, texts, room []string) {
	t.Helper()
	if !slices.Equal(room, slices.Concat(texts, spare)) {
		t.Errorf("%s: what was handed in, %.200q, is changed to %.200q", call, shown(texts), shown(room))
	}
}

// lists asks that values are lists of those tokens.
func lists(t *testing.T, values, want []string) {
	t.Helper()
	handed, room := roomy(values)
	if got, err := names.List(handed...); err != api.OK || !slices.Equal(got, want) {
		t.Errorf("List of %.200q: %.200q, error %d; want %.200q", shown(values), shown(got), err, shown(want))
	}
	stays(t, "List", values, room)
}

// listsNot asks that one of values is no list, and that nothing is told of the others.
func listsNot(t *testing.T, values ...string) {
	t.Helper()
	handed, room := roomy(values)
	if got, err := names.List(handed...); err != api.ErrNameForm || len(got) != 0 {
		t.Errorf("List of %.200q: %.200q, error %d; want error %d alone", shown(values), shown(got), err, api.ErrNameForm)
	}
	stays(t, "List", values, room)
}

// has asks whether values have a token.
func has(t *testing.T, token string, want bool, values ...string) {
	t.Helper()
	handed, room := roomy(values)
	if got := names.Has(token, handed...); got != want {
		t.Errorf("Has of %.80q, of %.200q: %t", token, shown(values), got)
	}
	stays(t, "Has", values, room)
}

// listForm and tokenForm say what a list is in another program's words.
var (
	listForm  = regexp.MustCompile("\\A[ \t]*(?:" + tokenWords + ")?[ \t]*(?:,[ \t]*(?:" + tokenWords + ")?[ \t]*)*\\z")
	tokenForm = regexp.MustCompile(tokenWords)
)

const tokenWords = "[0-9A-Za-z!#$%&'*+.^_`|~-]+"

// wanted is what List ought to answer, by those words.
func wanted(values []string) ([]string, api.Errno) {
	var tokens []string
	for _, value := range values {
		if !listForm.MatchString(value) {
			return nil, api.ErrNameForm
		}
		tokens = append(tokens, tokenForm.FindAllString(value, -1)...)
	}
	return tokens, api.OK
}

// listsAsWanted holds List against those words.
func listsAsWanted(t *testing.T, values ...string) {
	t.Helper()
	if want, err := wanted(values); err == api.OK {
		lists(t, values, want)
	} else {
		listsNot(t, values...)
	}
}

// everyText tells all texts of up to so many of some letters.
func everyText(letters string, most int, tell func(string)) {
	tell("")
	if most == 0 {
		return
	}
	for i := range letters {
		everyText(letters, most-1, func(behind string) { tell(letters[i:i+1] + behind) })
	}
}

// P6.1: the chapter's example.
func TestListExample(t *testing.T) {
	lists(t, []string{"keep-alive, Upgrade", ",x"}, []string{"keep-alive", "Upgrade", "x"})
}

// P6.1: List of no value, and of values in which there are no tokens: a list may be empty.
func TestListEmpty(t *testing.T) {
	if got, err := names.List(); len(got) != 0 || err != api.OK {
		t.Errorf("List of no value: %q, error %d", got, err)
	}
	for _, values := range [][]string{
		nil, {}, {""}, {"", ""}, {"", "", ""},
		{" "}, {"\t"}, {"  "}, {"\t\t"}, {" \t "}, {"\t \t"}, {" ", "\t"},
		{","}, {",,"}, {",,,,,"}, {",", ",,"}, {"", ",", " "},
		{" ,"}, {"\t,"}, {", "}, {",\t"}, {" , "}, {"\t,\t"}, {", ,"}, {",\t,"}, {" ,\t, \t,,\t "}, {", , ,", "\t,,"},
		{strings.Repeat(",", 5000)}, {strings.Repeat(" \t", 5000)}, {strings.Repeat(" ,\t", 5000)},
	} {
		lists(t, values, nil)
	}
}

// P6.1: blanks round tokens, any of both, or none, and commas that nothing stands between.
func TestListBlanks(t *testing.T) {
	for _, x := range []struct {
		value string
		want  []string
	}{
		{"a", []string{"a"}}, {" a", []string{"a"}}, {"a ", []string{"a"}}, {"\ta", []string{"a"}}, {"a\t", []string{"a"}}, {" \t a\t \t", []string{"a"}}, {"   Upgrade\t\t", []string{"Upgrade"}},
		{",a", []string{"a"}}, {"a,", []string{"a"}}, {",,a,,", []string{"a"}}, {" , a\t,", []string{"a"}}, {"\t,\ta ,\t", []string{"a"}}, {", \t,a", []string{"a"}},
		{"a,b", []string{"a", "b"}}, {"a,b,c", []string{"a", "b", "c"}}, {"keep-alive,Upgrade", []string{"keep-alive", "Upgrade"}},
		{"a, b", []string{"a", "b"}}, {"a ,b", []string{"a", "b"}}, {"a\t,b", []string{"a", "b"}}, {"a,\tb", []string{"a", "b"}}, {" a \t,\t b ", []string{"a", "b"}},
		{"a,,b", []string{"a", "b"}}, {"a, ,b", []string{"a", "b"}}, {"a,\t,b", []string{"a", "b"}}, {"a ,, \t,,b,", []string{"a", "b"}},
		{strings.Repeat(" \t", 5000) + "a" + strings.Repeat("\t ", 5000) + ",b", []string{"a", "b"}},
	} {
		lists(t, []string{x.value}, x.want)
	}
}

// P6.1: the tokens of all values come in order, as often as they are there, with their letters as they are.
func TestListOrder(t *testing.T) {
	for _, x := range []struct{ values, want []string }{
		{[]string{"b, a"}, []string{"b", "a"}}, {[]string{"b", "a"}, []string{"b", "a"}}, {[]string{"c,a", "b", "", "a,d"}, []string{"c", "a", "b", "a", "d"}},
		{[]string{"a,a"}, []string{"a", "a"}}, {[]string{"a", "a"}, []string{"a", "a"}}, {[]string{"a,b,a", "b,a"}, []string{"a", "b", "a", "b", "a"}},
		{[]string{"A,a,A"}, []string{"A", "a", "A"}}, {[]string{"WebSocket", "webSOCKET, Z,z"}, []string{"WebSocket", "webSOCKET", "Z", "z"}},
		{[]string{"10,9", "1"}, []string{"10", "9", "1"}}, {[]string{"ab,c", "a,bc"}, []string{"ab", "c", "a", "bc"}},
		{[]string{"", "x", "", "", "y"}, []string{"x", "y"}}, {[]string{"x", "", ",", " "}, []string{"x"}}, {[]string{" ", "\t", "x"}, []string{"x"}},
	} {
		lists(t, x.values, x.want)
	}
	var values, want []string
	for range 300 {
		values = append(values, strings.Repeat("x, Y,", 20))
		want = append(want, slices.Repeat([]string{"x", "Y"}, 20)...)
	}
	lists(t, values, want)
}

// P6.1: every byte as a token, and at its beginning, within it, and at its end, alone and among others.
func TestListEachByte(t *testing.T) {
	for value := range 256 {
		c := string([]byte{byte(value)})
		if strings.Contains(tokenBytes, c) {
			lists(t, []string{c}, []string{c})
			lists(t, []string{"x" + c + "y"}, []string{"x" + c + "y"})
			lists(t, []string{"a, " + c + "x ,b", "x" + c}, []string{"a", c + "x", "b", "x" + c})
			continue
		}
		switch c {
		case ",":
			lists(t, []string{"x" + c + "y", c + "x", "x" + c, c}, []string{"x", "y", "x", "x"})
		case " ", "\t":
			lists(t, []string{c + "x", "x" + c, c}, []string{"x", "x"})
			listsNot(t, "x"+c+"y")
		default:
			for _, value := range []string{c, "x" + c, c + "x", "x" + c + "y", " " + c + "\t", "x," + c, c + ",x", "x, y" + c + "z, u", "," + c + ","} {
				listsNot(t, value)
			}
		}
	}
}

// P6.1: a blank within a token.
func TestListBlankWithin(t *testing.T) {
	for _, value := range []string{"a b", "a\tb", "a  b", "a \tb", " a b ", "a b,c", "c,a b", "c, a\tb ,d", ",a b,", "a b c"} {
		listsNot(t, value)
	}
}

// P6.1: what looks like blanks or commas, and is none, and letters that are more than a byte.
func TestListForeign(t *testing.T) {
	for _, value := range []string{
		"a\n", "\na", "a\r\n", "a,\r\n b", "a\v", "\fa", "a,\x00", "\x00", "a\x00,b", "\u00a0a", "a\u00a0", "\u2003", "\u3000,a", "\ufeffa", "\u0085",
		"a\u060cb", "a\uff0cb", "\u00e4", "\u212a", "\uff21", "\x7f", "\x80", "\xff", "a\xe4", "\xc3",
		"a;q=1", "\"a\"", "a/b", "(a)", "a:b", "a@b", "[a]", "{a}", "a=b", "<a>", "a?", "a\\b", "a;b", "a, b;q", ";", "a,\"",
	} {
		listsNot(t, value)
		listsNot(t, "x", value)
		listsNot(t, value, "x")
	}
}

// P6.1: one value that is no list: the first, one in the middle, the last, or all: nothing is told of the others.
func TestListOneWrong(t *testing.T) {
	for _, wrong := range []string{"a b", ";", "x, y\x00", "\xff", "a,b,c d"} {
		for n := 1; n <= 5; n++ {
			for at := range n {
				values := slices.Repeat([]string{"a, b"}, n)
				values[at] = wrong
				listsNot(t, values...)
				for i := range values {
					if i != at {
						values[i] = ""
					}
				}
				listsNot(t, values...)
			}
			listsNot(t, slices.Repeat([]string{wrong}, n)...)
		}
	}
	listsNot(t, strings.Repeat("a,", 5000)+"a b")
	listsNot(t, append(slices.Repeat([]string{"a"}, 5000), "\n")...)
}

// P6.1: no token goes on from one value into the next, and what is wrong within a value stays wrong, whatever stands beside it.
func TestListValuesApart(t *testing.T) {
	lists(t, []string{"a", "b"}, []string{"a", "b"})
	lists(t, []string{"a ", " b"}, []string{"a", "b"})
	lists(t, []string{"a,", ",b"}, []string{"a", "b"})
	listsNot(t, "a b", "")
	listsNot(t, "", "a b")
}

// P6.1: every text of up to six of some letters, and each two of up to two, by another program's words.
func TestListEveryText(t *testing.T) {
	everyText("aB, \t;", 6, func(text string) { listsAsWanted(t, text) })
	everyText("aB, \t\x7f", 2, func(one string) {
		everyText("a-, \t\n", 2, func(other string) { listsAsWanted(t, one, other) })
	})
}

// P6.1: Has of tokens whose letters have the same case, or another.
func TestHas(t *testing.T) {
	has(t, "WebSocket", true, "h2c, websocket")
	for _, token := range []string{"Upgrade", "upgrade", "UPGRADE", "uPGRADE"} {
		has(t, token, true, "Upgrade")
		has(t, token, true, "keep-alive, Upgrade")
		has(t, token, true, "Upgrade,keep-alive")
		has(t, token, true, "a, uPgRaDe\t, b")
		has(t, token, true, "upgrade", "a", "")
		has(t, token, true, "a", "upgrade", "")
		has(t, token, true, "", "a,b", "c, UPGRADE")
		has(t, token, true, "upgrade", "Upgrade, UPGRADE")
		has(t, token, false, "a", "b, c")
	}
	for i := range tokenBytes {
		c := tokenBytes[i : i+1]
		has(t, c, true, "x", c)
		has(t, strings.ToUpper(c), true, "13, "+strings.ToLower(c))
		has(t, strings.ToLower(c), true, strings.ToUpper(c)+", 13")
		var others []string
		for other := range strings.SplitSeq(tokenBytes, "") {
			if !strings.EqualFold(c, other) {
				others = append(others, other)
			}
		}
		has(t, c, false, others...)
		has(t, c, false, strings.Join(others, ","))
	}
}

// P6.1: only letters have another case.
func TestHasOtherMarks(t *testing.T) {
	for _, x := range [][2]string{{"^", "~"}, {"~", "^"}, {"-", "\r"}, {"*", "\n"}, {"!", "\x01"}, {"0", "P"}, {"0", "\x10"}, {"k", "\u212a"}, {"s", "\u017f"}, {"|", "\\"}, {"`", "@"}, {"_", "\x7f"}, {"a^", "A~"}} {
		has(t, x[1], false, x[0])
		has(t, x[1], false, "x", x[0]+",y")
	}
}

// P6.1: Has of what is only a part of a token, or of which a token is only a part.
func TestHasParts(t *testing.T) {
	for _, x := range []string{"web", "socket", "ebsocke", "websocke", "ebsocket", "w", "websockets", "xwebsocket", "websocket-", "web-socket", "websocketwebsocket"} {
		has(t, x, false, "websocket")
		has(t, x, false, "a, websocket", "WebSocket")
		has(t, "websocket", false, x)
		has(t, "websocket", false, "a,"+x, x)
	}
	has(t, "websocket", false, "web,socket")
	has(t, "websocket", false, "web", "socket")
	has(t, "ab", false, "a", "b")
}

// P6.1: Has of nothing, and of texts that are no tokens: no list has them, even where they stand in one letter by letter.
func TestHasNoToken(t *testing.T) {
	for _, token := range []string{"", " ", "\t", ",", " a", "a ", "a,b", "a, b", ",a", "a,", "a b", "a\x00", "\x00", "\u00e4", "\xff", "a;", "\r\n"} {
		has(t, token, false)
		for _, value := range []string{"", " ", ",", "a", "a,b", "a, b", " a ", ",a", "a,", ",,", token, "a," + token} {
			has(t, token, false, value)
			has(t, token, false, "a", value)
			has(t, token, false, value, "a", "")
		}
	}
	has(t, "a", false)
	has(t, "a", false, "")
	has(t, "a", false, "", ",", " \t")
}

// P6.1: Has, where one value is no list, though another, or the same, has the token.
func TestHasOneWrong(t *testing.T) {
	for _, wrong := range []string{"b c", ";", "\x00", "a;q=1", "a,b c", "b c,a", "a, \xff", "a\n"} {
		has(t, "a", false, wrong)
		has(t, "a", false, wrong, "a")
		has(t, "a", false, "a", wrong)
		has(t, "a", false, "a", wrong, "a")
		has(t, "a", false, "a", "a", "x", wrong)
		has(t, "a", false, wrong, "x", "a,a")
	}
	has(t, "a", false, "a", "b c")
}

// P6.1: Has of every two texts of a few letters, by another program's words.
func TestHasEveryText(t *testing.T) {
	everyText("aA,b ", 2, func(token string) {
		everyText("aA,b ", 4, func(value string) {
			tokens, err := wanted([]string{value})
			want := err == api.OK && slices.ContainsFunc(tokens, func(s string) bool { return strings.EqualFold(s, token) })
			has(t, token, want, value)
			has(t, token, want, ",", value)
			has(t, token, false, value, "a b")
		})
	})
}

// The rules: what List tells is its own.
func TestListIsItsOwn(t *testing.T) {
	values := []string{"a, b", "c"}
	want := []string{"a", "b", "c"}
	one, _ := names.List(values...)
	other, _ := names.List(values...)
	_ = append(one, "more")
	for i := range one {
		one[i] = "other"
	}
	clear(one[:cap(one)])
	if !slices.Equal(other, want) || !slices.Equal(values, []string{"a, b", "c"}) {
		t.Errorf("%q of %q, behind a change of another answer", other, values)
	}
	lists(t, values, want)
	values[0], values[1] = "x", "y z"
	if !slices.Equal(other, want) {
		t.Errorf("%q, behind a change of the values", other)
	}
	single := []string{"a"}
	told, _ := names.List(single...)
	told[0] = "b"
	if single[0] != "a" {
		t.Errorf("%q, behind a change of an answer", single)
	}
}

// P1 and P6.1: whatever values there are: List answers by another program's words, where values are cut at commas or put together by them doesn't matter, and Has has each token.
func FuzzList(f *testing.F) {
	f.Add("keep-alive, Upgrade", ",x", "Upgrade")
	f.Add("", " \t,", "")
	f.Add("a b", "a", "a")
	f.Add("a\x00", "\xff,", "\u212a")
	f.Fuzz(func(t *testing.T, one, other, token string) {
		listsAsWanted(t, one)
		listsAsWanted(t, one, other)
		listsAsWanted(t, one+","+other)
		listsAsWanted(t, slices.Concat(strings.Split(one, ","), strings.Split(other, ","))...)
		tokens, err := wanted([]string{one, other})
		want := false
		for _, s := range tokens {
			want = want || tokenForm.FindString(token) == token && strings.EqualFold(s, token)
			has(t, strings.ToUpper(s), true, one, other)
			has(t, strings.ToLower(s), true, other, one)
		}
		has(t, token, want && err == api.OK, one, other)
	})
}
