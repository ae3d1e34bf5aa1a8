package shake_test

import (
	"bytes"
	"crypto/sha1"
	"encoding/base64"
	"slices"
	"strconv"
	"strings"
	"testing"

	"pendentive/api"
	"pendentive/shake"
)

const (
	key       = "dGhlIHNhbXBsZSBub25jZQ==" // the chapter's
	keyAccept = "s3pPLMBiTxaQ9kYGzzhZRbK+xOo="
)

// spareTexts and spareFields stand in the room behind lists that are handed in.
var (
	spareTexts  = []string{"spare", "room"}
	spareFields = []api.Field{{Name: "Origin", Value: "spare"}, {Name: "Upgrade", Value: "room"}}
)

// roomyTexts is a copy of texts with spare room behind, and a look at whether it is as it was.
func roomyTexts(texts []string) (handed []string, stays func(t *testing.T, call string)) {
	room := slices.Concat(texts, spareTexts)
	return room[:len(texts)], func(t *testing.T, call string) {
		t.Helper()
		if !slices.Equal(room, slices.Concat(texts, spareTexts)) {
			t.Errorf("%s: what was handed in, %.200q, is changed to %.200q", call, texts, room)
		}
	}
}

// roomyHead is a copy of a head with spare room behind its fields, and a look at whether it is as it was.
func roomyHead(h api.Head) (handed api.Head, stays func(t *testing.T, call string)) {
	room := slices.Concat(h.Fields, spareFields)
	return api.Head{First: h.First, Fields: room[:len(h.Fields)]}, func(t *testing.T, call string) {
		t.Helper()
		if !slices.Equal(room, slices.Concat(h.Fields, spareFields)) {
			t.Errorf("%s: the head that was handed in, %.400q, is changed to %.400q", call, h, room)
		}
	}
}

// question is a head that asks rightly, for no protocols, from no origin.
func question() api.Head {
	return api.Head{
		First: [3]string{"GET", "/chat?a=b", "HTTP/1.1"},
		Fields: []api.Field{
			{Name: "Host", Value: "a.b:80"},
			{Name: "Upgrade", Value: "websocket"},
			{Name: "Connection", Value: "Upgrade"},
			{Name: "Sec-WebSocket-Key", Value: key},
			{Name: "Sec-WebSocket-Version", Value: "13"},
		},
	}
}

// with is a head with just these values in fields of a name, behind all others.
func with(h api.Head, name string, values ...string) api.Head {
	out := api.Head{First: h.First}
	for _, f := range h.Fields {
		if f.Name != name {
			out.Fields = append(out.Fields, f)
		}
	}
	for _, value := range values {
		out.Fields = append(out.Fields, api.Field{Name: name, Value: value})
	}
	return out
}

// withFirst is a head with another part of its first line.
func withFirst(h api.Head, at int, part string) api.Head {
	h.First[at] = part
	return h
}

// offered is what question() asks for.
func offered() api.Offer {
	return api.Offer{Path: "/chat?a=b", Host: "a.b:80", Key: key}
}

// sameOffer is whether two offers are one: nil and empty lists are.
func sameOffer(a, b api.Offer) bool {
	return a.Path == b.Path && a.Host == b.Host && a.Key == b.Key && a.Origin == b.Origin && slices.Equal(a.Protocols, b.Protocols)
}

// offers asks that a head is a question, and for what.
func offers(t *testing.T, h api.Head, want api.Offer) {
	t.Helper()
	handed, stays := roomyHead(h)
	if o, status := shake.Question(handed); status != 0 || !sameOffer(o, want) {
		t.Errorf("Question of %.400q: %.200q, %d; want %.200q", h, o, status, want)
	}
	stays(t, "Question")
}

// refused asks that a head is refused by a status, and that there is no offer with it.
func refused(t *testing.T, h api.Head, want int) {
	t.Helper()
	handed, stays := roomyHead(h)
	if o, status := shake.Question(handed); status != want || !sameOffer(o, api.Offer{}) {
		t.Errorf("Question of %.400q: %.200q, %d; want %d alone", h, o, status, want)
	}
	stays(t, "Question")
}

// otherCases are texts with their letters in other cases.
func otherCases(s string) []string {
	mixed := []byte(strings.ToLower(s))
	for i := 0; i < len(mixed); i += 2 {
		mixed[i] = bytes.ToUpper(mixed[i : i+1])[0]
	}
	return []string{strings.ToLower(s), strings.ToUpper(s), string(mixed)}
}

// accept is a key's accept by another program.
func accept(key string) string {
	sum := sha1.Sum([]byte(key + "258EAFA5-E914-47DA-95CA-C5AB0DC85B11"))
	return base64.StdEncoding.EncodeToString(sum[:])
}

// count is so many protocols that are told apart.
func count(n int) []string {
	var protocols []string
	for i := range n {
		protocols = append(protocols, "p"+strconv.Itoa(i))
	}
	return protocols
}

// P7.1: the chapter's example.
func TestAcceptExample(t *testing.T) {
	if got := shake.Accept(key); got != keyAccept {
		t.Errorf("Accept of %s: %s; want %s", key, got, keyAccept)
	}
}

// P7.1: Accept of any text: of none, of what is no key, and of texts of many lengths, as they are.
func TestAcceptOfAnyText(t *testing.T) {
	if got, want := shake.Accept(""), "Kfh9QIsMVZcl6xEPYxPHzW8SZ8w="; got != want || accept("") != want {
		t.Errorf("Accept of nothing: %s; want %s", got, want)
	}
	texts := []string{"YQ==", key + " ", " " + key, strings.ToLower(key), strings.ToUpper(key), key + key, "\x00", "\xff\xfe", "\u00e4", "\r\n", "258EAFA5-E914-47DA-95CA-C5AB0DC85B11", strings.Repeat("a", 1<<16)}
	for n := range 200 {
		texts = append(texts, strings.Repeat("k", n))
	}
	for _, text := range texts {
		if got, want := shake.Accept(text), accept(text); got != want {
			t.Errorf("Accept of %.80q: %s; want %s", text, got, want)
		}
	}
}

// P7.1: what is asked rightly is an offer, and no status.
func TestQuestion(t *testing.T) {
	offers(t, question(), offered())
	h := with(with(question(), "Sec-WebSocket-Protocol", "chat, superchat"), "Origin", "http://c")
	want := offered()
	want.Protocols, want.Origin = []string{"chat", "superchat"}, "http://c"
	offers(t, h, want)
}

// P7.1: no head at all, and heads without fields, or without a first line.
func TestQuestionOfNothing(t *testing.T) {
	refused(t, api.Head{}, 405)
	refused(t, api.Head{Fields: question().Fields}, 405)
	refused(t, api.Head{First: question().First}, 400)
	refused(t, api.Head{First: question().First, Fields: make([]api.Field, 5)}, 400)
}

// P7.1: the first line: 405 of another method, 400 of another version, and of a path that doesn't begin with /.
func TestQuestionFirst(t *testing.T) {
	for _, part := range []string{"get", "Get", "", "POST", "HEAD", "GETS", "GE", "GET ", " GET", "\x00", "CONNECT"} {
		refused(t, withFirst(question(), 0, part), 405)
	}
	for _, part := range []string{"", "*", "chat", " /", "\\", "http://a/", "?", "a/", "\x00/"} {
		refused(t, withFirst(question(), 1, part), 400)
	}
	for _, part := range []string{"HTTP/1.0", "", "HTTP/1.1 ", " HTTP/1.1", "HTTP/2", "http/1.1", "HTTP/1.11", "HTTP/1.", "HTTP/11"} {
		refused(t, withFirst(question(), 2, part), 400)
	}
	for _, path := range []string{"/", "//", "/?", "/a/b?c#d", "/ ", "/\x00\xff", "/" + strings.Repeat("a", 5000)} {
		want := offered()
		want.Path = path
		offers(t, withFirst(question(), 1, path), want)
	}
}

// P7.1: Host: 400 of none, of an empty one, and of two.
func TestQuestionHost(t *testing.T) {
	for _, values := range [][]string{nil, {""}, {"", ""}, {"a", "b"}, {"a", "a"}, {"a.b:80", "a.b:80"}, {"", "a"}, {"a", ""}, {"a", "b", "c"}} {
		refused(t, with(question(), "Host", values...), 400)
	}
	for _, host := range []string{"a", "a.b", "[::1]:80", "a, b", " ", "0", "\x00"} {
		want := offered()
		want.Host = host
		offers(t, with(question(), "Host", host), want)
	}
}

// hasToken asks of a field that has to have a token, by its status.
func hasToken(t *testing.T, name, token string, status int) {
	t.Helper()
	for _, s := range append(otherCases(token), token) {
		for _, values := range [][]string{
			{s}, {"x", s}, {s, "x"}, {"", s}, {",", s, ","}, {"x, y", "z", "w, " + s + " ,"}, {s, s},
			{"x, " + s}, {s + ", x"}, {"x," + s + ",y"}, {" " + s + "\t"}, {"," + s}, {s + ",,"}, {"keep-alive, " + s}, {s + "," + s},
		} {
			offers(t, with(question(), name, values...), offered())
		}
		for _, value := range []string{s + "s", "x" + s, s[1:], s[:len(s)-1], s + "/13", "\"" + s + "\"", s + ";", s + " x", "x " + s, s + ";q=1", s + "\x00", s[:4] + "," + s[4:], s[:4] + " " + s[4:], s + "\r\n"} {
			refused(t, with(question(), name, value), status)
		}
		for _, wrong := range []string{"a b", ";", "\x00", "a/b", "x, y z", "\xff", "()"} {
			refused(t, with(question(), name, s, wrong), status)
			refused(t, with(question(), name, wrong, s), status)
			refused(t, with(question(), name, s+", "+wrong), status)
			refused(t, with(question(), name, wrong+", "+s), status)
		}
		refused(t, with(question(), name, s[:4], s[4:]), status)
	}
	for _, values := range [][]string{nil, {""}, {" "}, {","}, {"", ""}, {"x"}, {"x, y"}, {"x", "y"}, {"h2c"}, {"close"}, {"keep-alive"}, {"web-socket"}, {"*"}} {
		refused(t, with(question(), name, values...), status)
	}
}

// P7.1: Upgrade: 426 unless it has the token websocket; in any case, of any of its fields, beside others, if all are lists.
func TestQuestionUpgrade(t *testing.T) {
	hasToken(t, "Upgrade", "websocket", 426)
	refused(t, with(question(), "Upgrade", "Upgrade"), 426)
}

// P7.1: Connection: 400 unless it has the token Upgrade, so too.
func TestQuestionConnection(t *testing.T) {
	hasToken(t, "Connection", "Upgrade", 400)
	refused(t, with(question(), "Connection", "websocket"), 400)
}

// P7.1: Sec-WebSocket-Version: 426 unless it has one value, 13.
func TestQuestionVersion(t *testing.T) {
	for _, values := range [][]string{
		nil, {""}, {"8"}, {"013"}, {"13 "}, {" 13"}, {"\t13"}, {"1 3"}, {"13,"}, {"13, 8"}, {"8, 13"}, {"13,13"}, {"130"}, {"1"}, {"3"}, {"14"}, {"12"}, {"+13"}, {"-13"}, {"13.0"}, {"0xd"}, {"13\x00"},
		{"13", "13"}, {"13", "8"}, {"8", "13"}, {"13", ""}, {"", "13"}, {"7", "8"}, {"13", "13", "13"},
	} {
		refused(t, with(question(), "Sec-WebSocket-Version", values...), 426)
	}
}

// P7.1: Sec-WebSocket-Key: 400 unless it has one value, the letters of just 16 bytes.
func TestQuestionKey(t *testing.T) {
	wrong := []string{
		"", "YQ==", key + " ", " " + key, key[:23], key[:22], key[:20], key + "=", key + key, key + ",", "\"" + key + "\"",
		"dGhlIHNhbXBsZSBub25jZR==", "dGhlIHNhbXBsZSBub25jZf==", "dGhlIHNhbXBsZSBub25j-Q==", "dGhlIHNhbXBsZSBub25j_Q==", "dGhlIHNhbXBsZSBub25jZ===", "dGhlIHNhbXBsZS=ub25jZQ==", "=GhlIHNhbXBsZSBub25jZQ==",
		strings.Repeat("!", 24), strings.Repeat(" ", 24), strings.Repeat("=", 24), strings.Repeat("A", 24), strings.Repeat("A", 22) + "= ", strings.Repeat("A", 22), strings.Repeat("\xff", 24), strings.Repeat("A", 20) + "\u00e4==",
	}
	for n := range 50 {
		letters := base64.StdEncoding.EncodeToString(bytes.Repeat([]byte{byte(n * 7)}, n))
		if n == 16 {
			want := offered()
			want.Key = letters
			offers(t, with(question(), "Sec-WebSocket-Key", letters), want)
		} else {
			wrong = append(wrong, letters)
		}
	}
	for _, value := range wrong {
		refused(t, with(question(), "Sec-WebSocket-Key", value), 400)
		refused(t, with(question(), "Sec-WebSocket-Key", value, key), 400)
		refused(t, with(question(), "Sec-WebSocket-Key", key, value), 400)
	}
	refused(t, with(question(), "Sec-WebSocket-Key"), 400)
	refused(t, with(question(), "Sec-WebSocket-Key", key, key), 400)
	for i := range 16 {
		bytes16 := [16]byte{}
		bytes16[i] = byte(255 - i)
		want := offered()
		want.Key = base64.StdEncoding.EncodeToString(bytes16[:])
		offers(t, with(question(), "Sec-WebSocket-Key", want.Key), want)
	}
}

// P7.1: Sec-WebSocket-Protocol: none, empty ones, and those in one field, and in several, in their order.
func TestQuestionProtocols(t *testing.T) {
	for _, x := range []struct{ values, want []string }{
		{nil, nil}, {[]string{""}, nil}, {[]string{" ", ",", "\t,"}, nil},
		{[]string{"a"}, []string{"a"}}, {[]string{"a, b"}, []string{"a", "b"}}, {[]string{"b,a"}, []string{"b", "a"}}, {[]string{"a", "b"}, []string{"a", "b"}}, {[]string{"b", "a"}, []string{"b", "a"}},
		{[]string{"c,a", "", "b ,\t", ",d"}, []string{"c", "a", "b", "d"}}, {[]string{"a, A"}, []string{"a", "A"}}, {[]string{"Chat", "chat", "CHAT"}, []string{"Chat", "chat", "CHAT"}}, {[]string{"chat", "chat2", "cha"}, []string{"chat", "chat2", "cha"}},
		{[]string{"!#$%&'*+-.^_`|~09azAZ"}, []string{"!#$%&'*+-.^_`|~09azAZ"}},
	} {
		want := offered()
		want.Protocols = x.want
		offers(t, with(question(), "Sec-WebSocket-Protocol", x.values...), want)
	}
	for _, values := range [][]string{
		{"a, a"}, {"a", "a"}, {"a,b,a"}, {"a, b", "c, a"}, {"chat,", ",chat"}, {"a", "b", "c", "b"}, {"x,y,z,z"},
		{"a b"}, {"a;b"}, {"a", "b c"}, {"b c", "a"}, {"a, b c, d"}, {"a/b"}, {"\"a\""}, {"\x00"}, {"a\xff"}, {"a\n"}, {"()"}, {"a:b"}, {"\u00e4"},
	} {
		refused(t, with(question(), "Sec-WebSocket-Protocol", values...), 400)
	}
}

// P7.1: there may be 16 protocols, in fields of any number, and not one more.
func TestQuestionManyProtocols(t *testing.T) {
	for n := range 40 {
		protocols := count(n)
		want := offered()
		want.Protocols = protocols
		for _, values := range [][]string{protocols, {strings.Join(protocols, ", ")}, {strings.Join(protocols[:n/2], ","), "", strings.Join(protocols[n/2:], " ,")}} {
			h := with(question(), "Sec-WebSocket-Protocol", values...)
			if n <= 16 {
				offers(t, h, want)
			} else {
				refused(t, h, 400)
			}
		}
	}
	for at := range 16 {
		protocols := count(16)
		protocols[at] = protocols[(at+5)%16]
		refused(t, with(question(), "Sec-WebSocket-Protocol", protocols...), 400)
		protocols[at] = strings.ToUpper(protocols[at])
		want := offered()
		want.Protocols = protocols
		offers(t, with(question(), "Sec-WebSocket-Protocol", protocols...), want)
	}
}

// P7.1: Origin: none, an empty one, and one as it is; 400 of two, and of two alike.
func TestQuestionOrigin(t *testing.T) {
	offers(t, with(question(), "Origin"), offered())
	for _, origin := range []string{"", "null", "http://a.b:80", "a, b", " a ", "\xff"} {
		want := offered()
		want.Origin = origin
		offers(t, with(question(), "Origin", origin), want)
		refused(t, with(question(), "Origin", origin, origin), 400)
		refused(t, with(question(), "Origin", origin, "c"), 400)
		refused(t, with(question(), "Origin", "c", "d", origin), 400)
	}
}

// whole is a question with all that may be asked, and what it asks for.
func whole() (api.Head, api.Offer) {
	h := with(with(question(), "Sec-WebSocket-Protocol", "a, b", "c"), "Origin", "http://c")
	want := offered()
	want.Protocols, want.Origin = []string{"a", "b", "c"}, "http://c"
	return h, want
}

// P7.1: fields' names are in any case, each by itself, and all of them.
func TestQuestionNamesInAnyCase(t *testing.T) {
	h, want := whole()
	for which := range 3 {
		all := api.Head{First: h.First}
		for i, f := range h.Fields {
			name := otherCases(f.Name)[which]
			all.Fields = append(all.Fields, api.Field{Name: name, Value: f.Value})
			one := api.Head{First: h.First, Fields: slices.Clone(h.Fields)}
			one.Fields[i].Name = name
			offers(t, one, want)
		}
		offers(t, all, want)
		refused(t, with(h, otherCases("Host")[which], "a.b:80"), 400)
		refused(t, with(h, otherCases("Origin")[which], "d"), 400)
		refused(t, with(h, otherCases("Sec-WebSocket-Key")[which], key, key), 400)
		refused(t, with(h, otherCases("Sec-WebSocket-Version")[which], "13", "8"), 426)
		refused(t, with(h, otherCases("Sec-WebSocket-Protocol")[which], "a"), 400)
	}
}

// P7.1: other fields between, whose names are nearly the same, too, don't matter; nor does the order of fields of different names.
func TestQuestionOtherFields(t *testing.T) {
	h, want := whole()
	others := []string{"", "X", "Hosts", "Hos", "X-Host", "Upgrades", "Connection2", "Sec-WebSocket", "Sec-WebSocket-Key1", "Sec_WebSocket_Key", "Sec-WebSocket-Version-", "Sec-WebSocket-Protocols", "Sec-WebSocket-Accept", "Sec-WebSocket-Extensions", "Origins", "Host ", " Origin", "Content-Length"}
	for _, name := range others {
		for _, value := range []string{"", "a b", "permessage-deflate", "17"} {
			full := api.Head{First: h.First}
			for _, f := range h.Fields {
				full.Fields = append(full.Fields, api.Field{Name: name, Value: value}, f)
			}
			full.Fields = append(full.Fields, api.Field{Name: name, Value: value})
			offers(t, full, want)
		}
		for i, f := range h.Fields {
			gone := api.Head{First: h.First, Fields: slices.Clone(h.Fields)}
			gone.Fields[i].Name = name
			switch f.Name {
			case "Origin":
				less := want
				less.Origin = ""
				offers(t, gone, less)
			case "Upgrade", "Sec-WebSocket-Version":
				refused(t, gone, 426)
			case "Host", "Connection", "Sec-WebSocket-Key":
				refused(t, gone, 400)
			}
		}
	}
	for i := range question().Fields {
		turned := question()
		turned.Fields = slices.Concat(turned.Fields[i:], turned.Fields[:i])
		offers(t, turned, offered())
		slices.Reverse(turned.Fields)
		offers(t, turned, offered())
	}
}

// choice is one of a part's ways, and whether it is right.
type choice struct {
	turn  func(h api.Head) api.Head
	right bool
}

// partChoices are ways of a question's parts, in the chapter's order, each with the status that it is refused by if it is wrong.
func partChoices() (statuses []int, choices [][]choice) {
	first := func(at int, part string, right bool) choice {
		return choice{func(h api.Head) api.Head { return withFirst(h, at, part) }, right}
	}
	field := func(right bool, name string, values ...string) choice {
		return choice{func(h api.Head) api.Head { return with(h, name, values...) }, right}
	}
	return []int{405, 400, 400, 400, 426, 400, 426, 400, 400, 400}, [][]choice{
		{first(0, "GET", true), first(0, "get", false)},
		{first(2, "HTTP/1.1", true), first(2, "HTTP/1.0", false)},
		{first(1, "/x", true), first(1, "x", false)},
		{field(true, "Host", "h"), field(false, "Host"), field(false, "Host", "h", "h")},
		{field(true, "Upgrade", "h2c", "WebSocket"), field(false, "Upgrade"), field(false, "Upgrade", "websocket", "a b")},
		{field(true, "Connection", "keep-alive, upgrade"), field(false, "Connection", "close"), field(false, "Connection", "a b, Upgrade")},
		{field(true, "Sec-WebSocket-Version", "13"), field(false, "Sec-WebSocket-Version"), field(false, "Sec-WebSocket-Version", "8")},
		{field(true, "Sec-WebSocket-Key", key), field(false, "Sec-WebSocket-Key", "YQ=="), field(false, "Sec-WebSocket-Key", key, key)},
		{field(true, "Sec-WebSocket-Protocol", "b, a"), field(false, "Sec-WebSocket-Protocol", "a", "a"), field(false, "Sec-WebSocket-Protocol", "a b")},
		{field(true, "Origin", "o"), field(false, "Origin", "o", "p")},
	}
}

// P7.1: wherever several things are wrong, of all of them, the status is that of the one which the chapter names first.
func TestQuestionFirstWrong(t *testing.T) {
	statuses, choices := partChoices()
	want := api.Offer{Path: "/x", Host: "h", Key: key, Origin: "o", Protocols: []string{"b", "a"}}
	var turn func(h api.Head, at, status int)
	turn = func(h api.Head, at, status int) {
		switch {
		case at < len(choices):
			for _, c := range choices[at] {
				if next := status; !c.right && next == 0 {
					turn(c.turn(h), at+1, statuses[at])
				} else {
					turn(c.turn(h), at+1, next)
				}
			}
		case status == 0:
			offers(t, h, want)
		default:
			refused(t, h, status)
		}
	}
	turn(question(), 0, 0)
}

// P7.1: of two that stand next to each other, and whose statuses differ, the one named first; each in all its ways.
func TestQuestionTwoWrong(t *testing.T) {
	statuses, choices := partChoices()
	for i := range len(choices) - 1 {
		for _, one := range choices[i][1:] {
			refused(t, one.turn(question()), statuses[i])
			for _, other := range choices[i+1][1:] {
				refused(t, other.turn(one.turn(question())), statuses[i])
				refused(t, one.turn(other.turn(question())), statuses[i])
			}
		}
	}
}

// P1 and the rules: Question answers at odd heads, and very large ones, in good time.
func TestQuestionAnswers(t *testing.T) {
	for _, s := range []string{"", " ", "\x00", "\xff\xfe", "\r\n", ",", strings.Repeat("a", 1<<20), strings.Repeat(",", 1<<20), strings.Repeat("a,", 1<<20)} {
		for at, status := range []int{405, 400, 400} {
			refused(t, withFirst(question(), at, s), status)
		}
		refused(t, with(question(), "Upgrade", s), 426)
		refused(t, with(question(), "Connection", s), 400)
		refused(t, with(question(), "Sec-WebSocket-Version", s), 426)
		refused(t, with(question(), "Sec-WebSocket-Key", s), 400)
	}
	refused(t, with(question(), "Sec-WebSocket-Protocol", count(1<<18)...), 400)
	refused(t, with(question(), "Host", count(1<<18)...), 400)
	refused(t, with(question(), "Origin", count(1<<18)...), 400)
	offers(t, with(question(), "Upgrade", append(count(1<<18), "websocket")...), offered())
	offers(t, with(question(), "X", count(1<<18)...), offered())
}

// The rules: an offer's protocols are its own, and nothing of a head is kept.
func TestOfferIsItsOwn(t *testing.T) {
	h, want := whole()
	one, _ := shake.Question(h)
	other, _ := shake.Question(h)
	clear(one.Protocols[:cap(one.Protocols)])
	_ = append(one.Protocols, "more")
	if !sameOffer(other, want) {
		t.Errorf("%q, behind a change of another answer", other)
	}
	offers(t, h, want)
	clear(h.Fields)
	h.First = [3]string{}
	if !sameOffer(other, want) {
		t.Errorf("%q, behind a change of the head", other)
	}
}
