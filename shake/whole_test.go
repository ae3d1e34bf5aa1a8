package shake_test

import (
	"encoding/base64"
	"slices"
	"strings"
	"testing"

	"pendentive/api"
	"pendentive/head"
	"pendentive/shake"
)

// behind is what may stand behind a head.
var behind = []string{"", "a", "\r\n", "\r\n\r\n", "\x82\x05Hello", "GET / HTTP/1.1\r\n\r\n", "X: y\r\n\r\n", "\x00\xff", strings.Repeat("x", 1<<16)}

// throughBytes asks that a head is itself again, whatever stands behind its bytes, and tells it as it was read.
func throughBytes(t *testing.T, h api.Head, tell func(api.Head)) {
	t.Helper()
	b, err := head.Show(h)
	if err != api.OK {
		t.Errorf("Show of %.400q: error %d", h, err)
		return
	}
	for _, rest := range behind {
		read, n, err := head.Read([]byte(string(b) + rest))
		if err != api.OK || n != len(b) || !sameHead(read, h) {
			t.Errorf("Read of %.400q: %.400q, %d, error %d", b, read, n, err)
			continue
		}
		tell(read)
	}
}

// opens asks that what is asked is a question, and that its answer is right, with each protocol, and with none.
func opens(t *testing.T, path, host, key string, protocols ...string) {
	t.Helper()
	asked := mustAsk(t, path, host, key, protocols...)
	want := api.Offer{Path: path, Host: host, Key: key, Protocols: protocols}
	offers(t, asked, want)
	throughBytes(t, asked, func(h api.Head) { offers(t, h, want) })
	for _, protocol := range append([]string{""}, protocols...) {
		answered := shake.Answer(key, protocol)
		grants(t, answered, key, protocol, protocols...)
		if err := head.Check(answered); err == api.OK {
			throughBytes(t, answered, func(h api.Head) { grants(t, h, key, protocol, protocols...) })
		}
	}
}

// P7.4: what is asked is a question, and its answer is right.
func TestAskedAndAnswered(t *testing.T) {
	opens(t, "/", "a", key)
	opens(t, "/chat?a=b", "a.b:80", key, "chat")
	opens(t, "/chat?a=b", "[::1]:80", key, "b", "a", "A", "!#$%&'*+-.^_`|~")
	opens(t, "/:,;=?", "a,b:c", key, "chat.v1", "chat.v2")
	opens(t, "/\"<>\\^`{|}~", "~!", key, count(16)...)
	for n := range 17 {
		opens(t, "/"+strings.Repeat("p", 50*n), strings.Repeat("h", 1+n), base64.StdEncoding.EncodeToString([]byte(strings.Repeat("x", n)+strings.Repeat("\xff", 16-n))), count(n)...)
	}
	for c := 33; c <= 126; c++ {
		b := string([]byte{byte(c)})
		opens(t, "/"+b, b, key, "a", "b")
	}
}

// P7.4: so it is of the longest heads that may be.
func TestLongestAskedAndAnswered(t *testing.T) {
	for _, protocols := range [][]string{nil, {"a"}, count(16)} {
		b, err := head.Show(mustAsk(t, "/", "a", key, protocols...))
		if err != api.OK {
			t.Fatalf("Show: error %d", err)
		}
		long := strings.Repeat("x", 2048-len(b))
		opens(t, "/"+long, "a", key, protocols...)
		opens(t, "/", "a"+long, key, protocols...)
		if len(protocols) > 0 {
			longer := slices.Clone(protocols)
			longer[len(longer)-1] += long
			opens(t, "/", "a", key, longer...)
		}
	}
}

// P7.4: an answer is right to nobody who asked by another key, or didn't ask for its protocol.
func TestAnsweredToOthers(t *testing.T) {
	other := strings.Repeat("A", 22) + "=="
	for _, protocol := range []string{"", "a"} {
		grants(t, shake.Answer(key, protocol), key, protocol, "a")
		grantsNot(t, shake.Answer(key, protocol), other, "a")
		grantsNot(t, shake.Answer(other, protocol), key, "a")
	}
	grantsNot(t, shake.Answer(key, "a"), key)
	grantsNot(t, shake.Answer(key, "a"), key, "b")
}

// The rules: what was handed in may be changed behind a call: no head and no offer keeps it.
func TestNothingIsKept(t *testing.T) {
	protocols := []string{"a", "b"}
	asked, _ := shake.Ask("/", "h", key, protocols)
	want := api.Head{First: asked.First, Fields: slices.Clone(asked.Fields)}
	offer, _ := shake.Question(asked)
	protocol, _ := shake.Check(shake.Answer(key, "b"), key, protocols)
	protocols[0], protocols[1] = "x", "y"
	if !sameHead(asked, want) || protocol != "b" {
		t.Errorf("%q, that was %q, and %q, that was b, behind a change of the protocols", asked, want, protocol)
	}
	clear(asked.Fields)
	if !sameOffer(offer, api.Offer{Path: "/", Host: "h", Key: key, Protocols: []string{"a", "b"}}) {
		t.Errorf("%q, behind a change of the head", offer)
	}
	asks(t, "/", "h", key, "a", "b")
	allow := []string{"a"}
	allows(t, "a", true, allow...)
	allow[0] = "b"
	allows(t, "a", false, allow...)
}

// mayBe is whether something may be asked for, in another way's words.
func mayBe(path, host, key string, protocols []string) bool {
	bytes16, err := base64.StdEncoding.Strict().DecodeString(key)
	size := len("GET  HTTP/1.1\r\nHost: \r\nUpgrade: websocket\r\nConnection: Upgrade\r\nSec-WebSocket-Key: 123456789012345678901234\r\nSec-WebSocket-Version: 13\r\n\r\n") + len(path) + len(host)
	if len(protocols) > 0 {
		size += len("Sec-WebSocket-Protocol: \r\n") + len(strings.Join(protocols, ", "))
	}
	sorted := slices.Sorted(slices.Values(protocols))
	odd := func(r rune) bool { return r <= ' ' || r > '~' }
	noToken := func(s string) bool {
		return s == "" || strings.ContainsAny(s, "\"(),/:;<=>?@[\\]{}") || strings.ContainsFunc(s, odd)
	}
	return strings.HasPrefix(path, "/") && !strings.ContainsFunc(path, odd) && host != "" && !strings.ContainsFunc(host, odd) &&
		err == nil && len(bytes16) == 16 && len(key) == 24 && len(protocols) <= 16 && !slices.ContainsFunc(protocols, noToken) && len(slices.Compact(sorted)) == len(protocols) && size <= 2048
}

// P1, P7.3 and P7.4: whatever is asked for: Ask answers by another way's words, and what it answers is opened.
func FuzzAsk(f *testing.F) {
	f.Add("/", "a", key, "chat\nsuperchat")
	f.Add("/\x7f", "", key[:20], "a\na")
	f.Add("/"+strings.Repeat("x", 1900), "\xff", key, "")
	f.Fuzz(func(t *testing.T, path, host, key, lines string) {
		protocols := strings.FieldsFunc(lines, func(r rune) bool { return r == '\n' })
		if !mayBe(path, host, key, protocols) {
			asksNot(t, path, host, key, protocols...)
			return
		}
		asks(t, path, host, key, protocols...)
		opens(t, path, host, key, protocols...)
	})
}

// P1 and P7.1: whatever bytes a head is read from: Question and Check answer, with an offer or a status, a protocol or an error; an offer may be asked for, and is itself again.
func FuzzQuestion(f *testing.F) {
	for _, h := range []api.Head{question(), answer(), {First: question().First}} {
		b, _ := head.Show(h)
		f.Add(string(b))
		f.Add(strings.ToLower(string(b)))
	}
	f.Fuzz(func(t *testing.T, raw string) {
		h, _, _ := head.Read([]byte(raw))
		o, status := shake.Question(h)
		if status == 0 {
			offers(t, h, o)
			if again, err := shake.Ask(o.Path, o.Host, o.Key, o.Protocols); err == api.OK {
				o.Origin = ""
				offers(t, again, o)
			}
		} else if !slices.Contains([]int{400, 405, 426}, status) {
			t.Errorf("Question of %.400q: %d", h, status)
		} else {
			refused(t, h, status)
		}
		if protocol, err := check(t, h, key, []string{"a"}); err != api.OK && (err != api.ErrShakeWrong || protocol != "") || protocol != "" && protocol != "a" {
			t.Errorf("Check of %.400q: %.80q, error %d", h, protocol, err)
		}
	})
}
