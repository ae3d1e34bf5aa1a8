package shake_test

import (
	"encoding/base64"
	"slices"
	"strings"
	"testing"

	"pendentive/api"
	"pendentive/head"
	"pendentive/shake"
)

// ask is Ask's answer, and looks whether what was handed in stays as it was.
func ask(t *testing.T, path, host, key string, protocols []string) (api.Head, api.Errno) {
	t.Helper()
	handed, stays := roomyTexts(protocols)
	h, err := shake.Ask(path, host, key, handed)
	stays(t, "Ask")
	return h, err
}

// asks asks for the head that one asks by: each field's name, value and place.
func asks(t *testing.T, path, host, key string, protocols ...string) {
	t.Helper()
	want := made([3]string{"GET", path, "HTTP/1.1"}, [2]string{"Host", host}, [2]string{"Upgrade", "websocket"}, [2]string{"Connection", "Upgrade"}, [2]string{"Sec-WebSocket-Key", key}, [2]string{"Sec-WebSocket-Version", "13"})
	if len(protocols) > 0 {
		want = with(want, "Sec-WebSocket-Protocol", strings.Join(protocols, ", "))
	}
	if got, err := ask(t, path, host, key, protocols); err != api.OK || !sameHead(got, want) {
		t.Errorf("Ask of %.80q, %.80q, %.80q, %.200q: %.400q, error %d; want %.400q", path, host, key, protocols, got, err, want)
	}
}

// asksNot asks for the error, and for nothing else.
func asksNot(t *testing.T, path, host, key string, protocols ...string) {
	t.Helper()
	if got, err := ask(t, path, host, key, protocols); err != api.ErrShakeForm || !sameHead(got, api.Head{}) {
		t.Errorf("Ask of %.80q, %.80q, %.80q, %.200q: %.400q, error %d; want error %d alone", path, host, key, protocols[:min(len(protocols), 20)], got, err, api.ErrShakeForm)
	}
}

// P7.3: Ask for no protocol, for an empty list of them, for one, and for several, in their order.
func TestAsk(t *testing.T) {
	asks(t, "/", "a", key)
	asks(t, "/", "a", key, []string{}...)
	asks(t, "/chat?a=b", "a.b:80", key, "chat")
	asks(t, "/chat?a=b", "a.b:80", key, "b", "a")
	asks(t, "/chat?a=b", "a.b:80", key, "chat", "Chat", "CHAT", "superchat")
	if b, err := head.Show(mustAsk(t, "/x", "h", key, "a", "b")); err != api.OK || string(b) != "GET /x HTTP/1.1\r\nHost: h\r\nUpgrade: websocket\r\nConnection: Upgrade\r\nSec-WebSocket-Key: "+key+"\r\nSec-WebSocket-Version: 13\r\nSec-WebSocket-Protocol: a, b\r\n\r\n" {
		t.Errorf("%q, error %d", b, err)
	}
}

// mustAsk is what Ask answers, if that isn't an error.
func mustAsk(t *testing.T, path, host, key string, protocols ...string) api.Head {
	t.Helper()
	h, err := ask(t, path, host, key, protocols)
	if err != api.OK {
		t.Fatalf("Ask of %.80q, %.80q, %.80q, %.200q: error %d", path, host, key, protocols, err)
	}
	return h
}

// P7.3: protocols: at most 16, each a token, each there once; in another case it is another one.
func TestAskProtocols(t *testing.T) {
	for n := range 40 {
		if n <= 16 {
			asks(t, "/", "a", key, count(n)...)
		} else {
			asksNot(t, "/", "a", key, count(n)...)
		}
	}
	for at := range 16 {
		protocols := count(16)
		for _, wrong := range []string{"", " ", "a b", "a,b", " a", "a ", ",", "a;", "\x00", "\xff", "\u00e4", "a\r\n", "a/b", "\"a\"", "a:"} {
			protocols[at] = wrong
			asksNot(t, "/", "a", key, protocols...)
			asksNot(t, "/", "a", key, protocols[:at+1]...)
			asksNot(t, "/", "a", key, protocols[at:]...)
			asksNot(t, "/", "a", key, wrong)
		}
		protocols[at] = protocols[(at+3)%16]
		asksNot(t, "/", "a", key, protocols...)
		protocols[at] = strings.ToUpper(protocols[at])
		asks(t, "/", "a", key, protocols...)
	}
	asksNot(t, "/", "a", key, "a", "a")
	asksNot(t, "/", "a", key, "a", "b", "a")
	asksNot(t, "/", "a", key, "", "")
	asks(t, "/", "a", key, "a", "A")
	for c := range 256 {
		token := string([]byte{byte(c)})
		for _, protocol := range []string{token, "a" + token, token + "a", "a" + token + "b"} {
			if strings.Contains("abcdefghijklmnopqrstuvwxyzABCDEFGHIJKLMNOPQRSTUVWXYZ0123456789!#$%&'*+-.^_`|~", token) {
				asks(t, "/", "a", key, protocol)
				asks(t, "/", "a", key, "xx", protocol, "yy")
			} else {
				asksNot(t, "/", "a", key, protocol)
				asksNot(t, "/", "a", key, "xx", protocol, "yy")
			}
		}
	}
}

// P7.3: path: not empty, / ahead, and no byte but those from 33 to 126, in any place.
func TestAskPath(t *testing.T) {
	for _, path := range []string{"", " ", "a", "*", "a/", "?", "\\", " /", "http://a/", "//a b", "/ ", "/a b", "/ a", "/a\t", "/\r\n", "/\u00e4", "/\xff"} {
		asksNot(t, path, "a", key)
		asksNot(t, path, "a", key, "a", "b")
	}
	for c := range 256 {
		b := string([]byte{byte(c)})
		for _, path := range []string{"/" + b, "/a" + b, "/" + b + "a", "/a" + b + "b", "/" + b + b, "/a/b?" + b + "#"} {
			if c >= 33 && c <= 126 {
				asks(t, path, "a", key)
			} else {
				asksNot(t, path, "a", key)
			}
		}
		if c != '/' {
			asksNot(t, b, "a", key)
			asksNot(t, b+"/", "a", key)
		}
	}
	asks(t, "//", "a", key)
	asks(t, "/:/", "a", key)
}

// P7.3: host: not empty, and no byte but those from 33 to 126, in any place.
func TestAskHost(t *testing.T) {
	for _, host := range []string{"", " ", "a b", " a", "a ", "\t", "a\r\n", "\u00e4", "a\nX: y", "\x00"} {
		asksNot(t, "/", host, key)
		asksNot(t, "/", host, key, "a", "b")
	}
	for c := range 256 {
		b := string([]byte{byte(c)})
		for _, host := range []string{b, "a" + b, b + "a", "a" + b + "b", b + b, "a.b:80" + b + "!"} {
			if c >= 33 && c <= 126 {
				asks(t, "/", host, key)
			} else {
				asksNot(t, "/", host, key)
			}
		}
	}
}

// P7.3: key: the letters of just 16 bytes.
func TestAskKey(t *testing.T) {
	for _, wrong := range []string{"", "YQ==", key + " ", " " + key, key[:23], key[:22], key + "=", key + key, "dGhlIHNhbXBsZSBub25jZR==", strings.Repeat("!", 24), strings.Repeat("A", 24), strings.Repeat("A", 23) + "=", strings.Repeat("=", 24), keyAccept} {
		asksNot(t, "/", "a", wrong)
		asksNot(t, "/", "a", wrong, "a", "b")
	}
	for n := range 50 {
		letters := base64.StdEncoding.EncodeToString(make([]byte, n))
		if n == 16 {
			asks(t, "/", "a", letters)
		} else {
			asksNot(t, "/", "a", letters)
		}
	}
}

// P7.3: a head that is just as long as may be, and one that is longer by one byte, whatever makes it so long.
func TestAskLength(t *testing.T) {
	for _, protocols := range [][]string{nil, {"a"}, {"a", "b"}, count(16)} {
		b, err := head.Show(mustAsk(t, "/", "a", key, protocols...))
		if err != api.OK {
			t.Fatalf("Show: error %d", err)
		}
		room := 2048 - len(b)
		for more := room - 3; more <= room+3; more++ {
			try := asks
			if more > room {
				try = asksNot
			}
			long := strings.Repeat("x", more)
			try(t, "/"+long, "a", key, protocols...)
			try(t, "/", "a"+long, key, protocols...)
			try(t, "/"+long[:more/2], "a"+long[more/2:], key, protocols...)
			for i, protocol := range protocols {
				longer := slices.Clone(protocols)
				longer[i] = protocol + long
				try(t, "/", "a", key, longer...)
			}
		}
	}
	for _, n := range []int{1 << 11, 1 << 12, 1 << 16, 1 << 20} {
		long := strings.Repeat("x", n)
		asksNot(t, "/"+long, "a", key)
		asksNot(t, "/", long, key)
		asksNot(t, "/", "a", long)
		asksNot(t, "/", "a", key, long)
	}
	asksNot(t, "/", "a", key, count(1<<18)...)
}

// P7.3: whatever is wrong, and however much, it is one error; all are tried together.
func TestAskAllWrong(t *testing.T) {
	paths := []string{"/x", "", "x", "/ "}
	hosts := []string{"h", "", " "}
	keys := []string{key, "", "YQ=="}
	lists := [][]string{nil, {"a", "b"}, {"a", "a"}, {""}, count(17)}
	for i, path := range paths {
		for j, host := range hosts {
			for k, letters := range keys {
				for l, protocols := range lists {
					if i == 0 && j == 0 && k == 0 && l < 2 {
						asks(t, path, host, letters, protocols...)
					} else {
						asksNot(t, path, host, letters, protocols...)
					}
				}
			}
		}
	}
}
