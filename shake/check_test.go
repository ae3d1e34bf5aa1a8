package shake_test

import (
	"slices"
	"strings"
	"testing"

	"pendentive/api"
	"pendentive/shake"
)

// check is Check's answer, and looks whether what was handed in stays as it was.
func check(t *testing.T, h api.Head, key string, protocols []string) (string, api.Errno) {
	t.Helper()
	handedHead, staysHead := roomyHead(h)
	handed, stays := roomyTexts(protocols)
	protocol, err := shake.Check(handedHead, key, handed)
	staysHead(t, "Check")
	stays(t, "Check")
	return protocol, err
}

// grants asks that an answer grants a protocol, or none.
func grants(t *testing.T, h api.Head, key, want string, protocols ...string) {
	t.Helper()
	if protocol, err := check(t, h, key, protocols); protocol != want || err != api.OK {
		t.Errorf("Check of %.400q, %.80q, %.200q: %.80q, error %d; want %.80q", h, key, protocols, protocol, err, want)
	}
}

// grantsNot asks that an answer is wrong, and that it grants nothing.
func grantsNot(t *testing.T, h api.Head, key string, protocols ...string) {
	t.Helper()
	if protocol, err := check(t, h, key, protocols); protocol != "" || err != api.ErrShakeWrong {
		t.Errorf("Check of %.400q, %.80q, %.200q: %.80q, error %d; want error %d alone", h, key, protocols[:min(len(protocols), 20)], protocol, err, api.ErrShakeWrong)
	}
}

// rightAlways asks that an answer is right, with a protocol told and without one.
func rightAlways(t *testing.T, h api.Head) {
	t.Helper()
	grants(t, h, key, "")
	grants(t, h, key, "", "a", "b")
	for _, protocol := range []string{"a", "b"} {
		grants(t, with(h, "Sec-WebSocket-Protocol", protocol), key, protocol, "a", "b")
	}
}

// wrongAlways asks that an answer is wrong, with a protocol told and without one.
func wrongAlways(t *testing.T, h api.Head) {
	t.Helper()
	grantsNot(t, h, key)
	grantsNot(t, h, key, "a", "b")
	grantsNot(t, with(h, "Sec-WebSocket-Protocol", "a"), key, "a", "b")
	grantsNot(t, with(h, "Sec-WebSocket-Protocol", "c"), key, "a", "b")
}

// answer is a right answer, written out.
func answer() api.Head {
	return made([3]string{"HTTP/1.1", "101", "Switching Protocols"}, [2]string{"Upgrade", "websocket"}, [2]string{"Connection", "Upgrade"}, [2]string{"Sec-WebSocket-Accept", keyAccept})
}

// P7.3: a right answer, with a protocol and without one.
func TestCheck(t *testing.T) {
	rightAlways(t, answer())
	rightAlways(t, shake.Answer(key, ""))
	grants(t, shake.Answer(key, "b"), key, "b", "a", "b")
	for _, k := range []string{"", "YQ==", "\xff", strings.Repeat("A", 22) + "==", strings.Repeat("a", 1<<16)} {
		h := with(answer(), "Sec-WebSocket-Accept", accept(k))
		grants(t, h, k, "")
		grantsNot(t, h, key)
		grantsNot(t, answer(), k)
	}
}

// P7.3: First[0] and First[1] have to be as they are; First[2] may be anything.
func TestCheckFirst(t *testing.T) {
	wrongAlways(t, api.Head{})
	wrongAlways(t, api.Head{First: answer().First})
	wrongAlways(t, api.Head{Fields: answer().Fields})
	for _, part := range []string{"", "HTTP/1.0", "HTTP/2", "http/1.1", "HTTP/1.1 ", " HTTP/1.1", "HTTP/1.10", "HTTP/1.", "101"} {
		wrongAlways(t, withFirst(answer(), 0, part))
	}
	for _, part := range []string{"", "100", "102", "200", "400", "426", "1010", "10", "0101", "101 ", " 101", "1", "+101"} {
		wrongAlways(t, withFirst(answer(), 1, part))
	}
	for _, part := range []string{"", "OK", "switching protocols", "Bad Request", " ", "\x00\xff", strings.Repeat("a", 5000)} {
		rightAlways(t, withFirst(answer(), 2, part))
	}
}

// checksToken asks of a field that has to have a token.
func checksToken(t *testing.T, name, token string) {
	t.Helper()
	for _, s := range append(otherCases(token), token) {
		for _, values := range [][]string{{s}, {"x", s}, {s, "x"}, {"", s}, {"x, " + s}, {s + " , x"}, {"x," + s + ",y"}, {" " + s + "\t"}, {"," + s + ","}, {s, s}, {"keep-alive", "x, " + s}} {
			rightAlways(t, with(answer(), name, values...))
		}
		for _, value := range []string{s + "s", "x" + s, s[1:], s[:len(s)-1], s + "/13", "\"" + s + "\"", s + ";", s + " x", s + "\x00", s[:4] + "," + s[4:]} {
			wrongAlways(t, with(answer(), name, value))
		}
		for _, wrong := range []string{"a b", ";", "\x00", "a/b", "\xff"} {
			wrongAlways(t, with(answer(), name, s, wrong))
			wrongAlways(t, with(answer(), name, wrong, s))
			wrongAlways(t, with(answer(), name, s+", "+wrong))
		}
		wrongAlways(t, with(answer(), name, s[:4], s[4:]))
	}
	for _, values := range [][]string{nil, {""}, {","}, {"", ""}, {"x"}, {"x, y"}, {"x", "y"}, {"h2c"}, {"close"}} {
		wrongAlways(t, with(answer(), name, values...))
	}
}

// P7.3: Upgrade has the token websocket, and Connection the token Upgrade: in any case, beside others.
func TestCheckTokens(t *testing.T) {
	checksToken(t, "Upgrade", "websocket")
	checksToken(t, "Connection", "Upgrade")
	wrongAlways(t, with(answer(), "Upgrade", "Upgrade"))
	wrongAlways(t, with(answer(), "Connection", "websocket"))
}

// P7.3: the accept: one, the key's, letter by letter.
func TestCheckAccept(t *testing.T) {
	for _, values := range [][]string{
		nil, {""}, {key}, {accept("")}, {accept("YQ==")}, {keyAccept[:27]}, {keyAccept + "="}, {keyAccept + " "}, {" " + keyAccept}, {keyAccept + "," + keyAccept}, {keyAccept + ","},
		{keyAccept, keyAccept}, {keyAccept, ""}, {"", keyAccept}, {keyAccept, "x"}, {"x", keyAccept}, {keyAccept, keyAccept, keyAccept}, {"s3pPLMBiTxaQ9kYGzzhZRbK-xOo="}, {"s3pPLMBiTxaQ9kYGzzhZRbK+xOp="},
	} {
		wrongAlways(t, with(answer(), "Sec-WebSocket-Accept", values...))
	}
	for _, other := range otherCases(keyAccept) {
		wrongAlways(t, with(answer(), "Sec-WebSocket-Accept", other))
	}
	for i := range keyAccept {
		wrongAlways(t, with(answer(), "Sec-WebSocket-Accept", keyAccept[:i]+"."+keyAccept[i+1:]))
		wrongAlways(t, with(answer(), "Sec-WebSocket-Accept", keyAccept[:i]+keyAccept[i+1:]))
	}
	for _, k := range append(otherCases(key), key+" ", "", key[:23]) {
		grantsNot(t, answer(), k)
		grantsNot(t, answer(), k, "a")
	}
}

// P7.3: there are no extensions, not an empty one either, in whatever case the name is.
func TestCheckExtensions(t *testing.T) {
	const name = "Sec-WebSocket-Extensions"
	for _, name := range append(otherCases(name), name) {
		for _, values := range [][]string{{""}, {" "}, {","}, {"permessage-deflate"}, {"a", "b"}, {"", ""}, {"\x00"}} {
			wrongAlways(t, with(answer(), name, values...))
		}
	}
	for _, name := range []string{"", "Sec-WebSocket-Extension", "Sec-WebSocket-Extensions2", "X-Sec-WebSocket-Extensions", "Extensions", "Sec_WebSocket_Extensions", "Sec-WebSocket-Version", "Server", "Content-Length", "Host"} {
		rightAlways(t, with(answer(), name, "x", "a b", ""))
	}
}

// P7.3: a protocol: none, or one that was asked for, letter by letter.
func TestCheckProtocol(t *testing.T) {
	const name = "Sec-WebSocket-Protocol"
	asked := []string{"chat", "Chat2", "a"}
	for _, protocol := range asked {
		h := with(answer(), name, protocol)
		grants(t, h, key, protocol, asked...)
		grants(t, h, key, protocol, protocol)
		grants(t, h, key, protocol, append(count(40), protocol)...)
		grants(t, h, key, protocol, protocol, "x", protocol)
		grantsNot(t, h, key)
		grantsNot(t, h, key, "x", "y")
		grantsNot(t, h, key, count(40)...)
		for _, values := range [][]string{{protocol, protocol}, {protocol, ""}, {"", protocol}, {protocol, "a"}, {"chat", protocol}, {protocol, "x"}, {protocol, protocol, protocol}} {
			grantsNot(t, with(answer(), name, values...), key, asked...)
		}
		for _, value := range []string{"", " ", "b", protocol + "t", protocol + "2", "x" + protocol, protocol + " ", " " + protocol, protocol + ",", "," + protocol, protocol + ", " + protocol, "chat, a", "chat,Chat2,a", strings.ToUpper(protocol), strings.ToUpper(protocol[:1]) + strings.ToLower(protocol[1:]) + ".", "\x00"} {
			if !slices.Contains(asked, value) {
				grantsNot(t, with(answer(), name, value), key, asked...)
				grantsNot(t, with(answer(), name, value), key)
			}
		}
	}
	for _, other := range []string{"CHAT", "Chat", "chat2", "CHAT2", "A"} {
		grantsNot(t, with(answer(), name, other), key, asked...)
	}
	for _, odd := range []string{"", " ", "a, b", "\xff"} {
		grants(t, with(answer(), name, odd), key, odd, "x", odd)
		grantsNot(t, with(answer(), name, odd), key, "x")
	}
	grantsNot(t, with(answer(), name, ""), key)
	grantsNot(t, with(answer(), name, "", ""), key, "", "a")
	grantsNot(t, with(answer(), name, "a", "a"), key, "", "a")
	grants(t, with(answer(), name, "p9"), key, "p9", count(1<<18)...)
	grantsNot(t, with(answer(), name, "q"), key, count(1<<18)...)
}

// P7.3: names are in any case, and fields in any order, with others between.
func TestCheckNamesInAnyCase(t *testing.T) {
	h := with(answer(), "Sec-WebSocket-Protocol", "b")
	for which := range 3 {
		other := api.Head{First: h.First}
		for i, f := range h.Fields {
			name := otherCases(f.Name)[which]
			other.Fields = append(other.Fields, api.Field{Name: "X", Value: "a b"}, api.Field{Name: name, Value: f.Value})
			one := api.Head{First: h.First, Fields: slices.Clone(h.Fields)}
			one.Fields[i].Name = name
			grants(t, one, key, "b", "a", "b")
			one.Fields[i].Name = name + "x"
			if f.Name == "Sec-WebSocket-Protocol" {
				grants(t, one, key, "", "a", "b")
			} else {
				grantsNot(t, one, key, "a", "b")
			}
		}
		grants(t, other, key, "b", "a", "b")
		slices.Reverse(other.Fields)
		grants(t, other, key, "b", "a", "b")
		grantsNot(t, with(h, otherCases("Sec-WebSocket-Protocol")[which], "b"), key, "a", "b")
		grantsNot(t, with(h, otherCases("Sec-WebSocket-Accept")[which], keyAccept), key, "a", "b")
	}
}

// P7.3: refusals are no right answers.
func TestCheckRefusals(t *testing.T) {
	for status := range refusals {
		wrongAlways(t, shake.Refusal(status))
	}
	wrongAlways(t, question())
}
