package shake_test

import (
	"math"
	"slices"
	"strconv"
	"strings"
	"testing"

	"pendentive/api"
	"pendentive/head"
	"pendentive/shake"
)

// sameHead is whether two heads are one: nil and empty lists are.
func sameHead(a, b api.Head) bool { return a.First == b.First && slices.Equal(a.Fields, b.Fields) }

// made is a head of a first line's parts and of fields, each a name and a value.
func made(first [3]string, fields ...[2]string) api.Head {
	h := api.Head{First: first}
	for _, f := range fields {
		h.Fields = append(h.Fields, api.Field{Name: f[0], Value: f[1]})
	}
	return h
}

// allows asks whether an origin may ask.
func allows(t *testing.T, origin string, want bool, allow ...string) {
	t.Helper()
	handed, stays := roomyTexts(allow)
	if got := shake.Allowed(origin, handed); got != want {
		t.Errorf("Allowed of %.80q, %.200q: %t", origin, allow, got)
	}
	stays(t, "Allowed")
}

var origins = []string{"", "a", "A", "null", "http://a.b", "http://a.b:80", "http://A.b", "http://a.b/", " a", "a ", "a, b", "*", "\x00", "\xff", "\u00e4", "k", "\u212a"}

// P7.2: whoever asks may, if nobody is listed.
func TestAllowedOfAll(t *testing.T) {
	for _, origin := range origins {
		allows(t, origin, true)
		if !shake.Allowed(origin, nil) || !shake.Allowed(origin, []string{}) {
			t.Errorf("Allowed of %q, of an empty list: false", origin)
		}
	}
}

// P7.2: else whoever is listed, in whatever place, letter by letter; an empty origin, too.
func TestAllowed(t *testing.T) {
	for i, origin := range origins {
		allows(t, origin, true, origin)
		allows(t, origin, true, origins...)
		allows(t, origin, true, "x", origin)
		allows(t, origin, true, origin, "x", "y")
		allows(t, origin, true, "x", origin, "y", origin)
		allows(t, origin, false, "x")
		allows(t, origin, false, "x", "y", "x")
		without := slices.Concat(origins[:i], origins[i+1:])
		allows(t, origin, false, without...)
		for _, other := range without {
			allows(t, origin, false, other)
			allows(t, origin, false, other, other)
		}
	}
	allows(t, "http://a.b", false, "http://a.b, http://c", "*", "http://*")
	allows(t, "last", true, append(count(1<<18), "last")...)
	allows(t, "none", false, count(1<<18)...)
}

// P7.2: Answer, with a protocol and without one, to each field's name, value and place.
func TestAnswer(t *testing.T) {
	first := [3]string{"HTTP/1.1", "101", "Switching Protocols"}
	upgrade, connection := [2]string{"Upgrade", "websocket"}, [2]string{"Connection", "Upgrade"}
	want := made(first, upgrade, connection, [2]string{"Sec-WebSocket-Accept", keyAccept})
	if got := shake.Answer(key, ""); !sameHead(got, want) {
		t.Errorf("Answer of no protocol: %q; want %q", got, want)
	}
	for _, k := range []string{key, "", "YQ==", " ", "\xff", strings.Repeat("A", 22) + "==", strings.Repeat("a", 1<<16)} {
		want := made(first, upgrade, connection, [2]string{"Sec-WebSocket-Accept", accept(k)})
		if got := shake.Answer(k, ""); !sameHead(got, want) {
			t.Errorf("Answer of %.80q: %q; want %q", k, got, want)
		}
		for _, protocol := range []string{"a", "chat.v2", "A", " ", "a, b", "\x00", "\xff", strings.Repeat("a", 5000)} {
			want := made(first, upgrade, connection, [2]string{"Sec-WebSocket-Accept", accept(k)}, [2]string{"Sec-WebSocket-Protocol", protocol})
			if got := shake.Answer(k, protocol); !sameHead(got, want) {
				t.Errorf("Answer of %.80q, %.80q: %.400q; want %.400q", k, protocol, got, want)
			}
		}
	}
}

// P7.2: an answer as bytes.
func TestAnswerShown(t *testing.T) {
	const want = "HTTP/1.1 101 Switching Protocols\r\nUpgrade: websocket\r\nConnection: Upgrade\r\nSec-WebSocket-Accept: s3pPLMBiTxaQ9kYGzzhZRbK+xOo=\r\nSec-WebSocket-Protocol: chat\r\n\r\n"
	if b, err := head.Show(shake.Answer(key, "chat")); string(b) != want || err != api.OK {
		t.Errorf("%q, error %d; want %q", b, err, want)
	}
}

// refusals are the words of the statuses that are known.
var refusals = map[int]string{
	400: "Bad Request", 403: "Forbidden", 404: "Not Found", 405: "Method Not Allowed", 426: "Upgrade Required",
	502: "Bad Gateway", 503: "Service Unavailable", 504: "Gateway Timeout",
}

// refuses asks for a refusal: of a status that isn't known as of 400.
func refuses(t *testing.T, status int) {
	t.Helper()
	told, words := status, refusals[status]
	if words == "" {
		told, words = 400, "Bad Request"
	}
	want := made([3]string{"HTTP/1.1", strconv.Itoa(told), words}, [2]string{"Connection", "close"}, [2]string{"Content-Length", "0"})
	if status == 426 {
		want = made([3]string{"HTTP/1.1", "426", words}, [2]string{"Upgrade", "websocket"}, [2]string{"Sec-WebSocket-Version", "13"}, [2]string{"Connection", "close"}, [2]string{"Content-Length", "0"})
	}
	if got := shake.Refusal(status); !sameHead(got, want) {
		t.Errorf("Refusal of %d: %q; want %q", status, got, want)
	}
}

// P7.2: Refusal of each status that is known, and of others, as 400: its first line, and each field's name, value and place.
func TestRefusal(t *testing.T) {
	for status := range refusals {
		refuses(t, status)
	}
	for _, status := range []int{0, -1, 200, 999, 101, 401, 402, 406, 425, 427, 500, 501, 505, -400, -403, -426, math.MaxInt, math.MinInt, 400 + 1<<32, 426 + 1<<32, 426 + 1<<16} {
		refuses(t, status)
	}
	for status := -1000; status < 2000; status++ {
		refuses(t, status)
	}
}

// P7.2: refusals as bytes.
func TestRefusalShown(t *testing.T) {
	for status, want := range map[int]string{
		404: "HTTP/1.1 404 Not Found\r\nConnection: close\r\nContent-Length: 0\r\n\r\n",
		426: "HTTP/1.1 426 Upgrade Required\r\nUpgrade: websocket\r\nSec-WebSocket-Version: 13\r\nConnection: close\r\nContent-Length: 0\r\n\r\n",
		999: "HTTP/1.1 400 Bad Request\r\nConnection: close\r\nContent-Length: 0\r\n\r\n",
	} {
		if b, err := head.Show(shake.Refusal(status)); string(b) != want || err != api.OK {
			t.Errorf("Refusal of %d: %q, error %d; want %q", status, b, err, want)
		}
	}
}

// The rules: heads that are handed out are their own.
func TestHeadsAreTheirOwn(t *testing.T) {
	for name, call := range map[string]func() api.Head{
		"Answer":              func() api.Head { return shake.Answer(key, "a") },
		"Answer, no protocol": func() api.Head { return shake.Answer(key, "") },
		"Refusal":             func() api.Head { return shake.Refusal(404) },
		"Refusal, upgrade":    func() api.Head { return shake.Refusal(426) },
		"Ask": func() api.Head {
			h, _ := shake.Ask("/", "a", key, []string{"a", "b"})
			return h
		},
		"Ask, no protocols": func() api.Head {
			h, _ := shake.Ask("/", "a", key, nil)
			return h
		},
	} {
		one, other := call(), call()
		want := api.Head{First: other.First, Fields: slices.Clone(other.Fields)}
		clear(one.Fields[:cap(one.Fields)])
		_ = append(one.Fields, api.Field{Name: "more"})
		if again := call(); !sameHead(other, want) || !sameHead(again, want) {
			t.Errorf("%s: %q and %q, that were %q, behind a change of another answer", name, other, again, want)
		}
	}
}
