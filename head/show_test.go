package head_test

import (
	"bytes"
	"slices"
	"strings"
	"testing"

	"pendentive/api"
	"pendentive/head"
)

// may asks that a head may be, that it is shown as these bytes, and that they are itself again, whatever stands behind.
func may(t *testing.T, h api.Head, want string) {
	t.Helper()
	fieldsBefore := slices.Clone(h.Fields)
	if err := head.Check(h); err != api.OK {
		t.Errorf("Check of %.200q: error %d", h, err)
	}
	b, err := head.Show(h)
	if string(b) != want || err != api.OK {
		t.Errorf("Show of %.200q: %.200q, error %d; want %.200q", h, b, err, want)
	}
	if !slices.Equal(h.Fields, fieldsBefore) {
		t.Errorf("what was handed in is changed: %.200q", h)
	}
	reads(t, want, h, len(want))
	reads(t, want+end, h, len(want))
}

// mayNot asks that a head is answered by an error, and by nothing else.
func mayNot(t *testing.T, h api.Head, want api.Errno) {
	t.Helper()
	if err := head.Check(h); err != want {
		t.Errorf("Check of %.200q: error %d, want %d", h, err, want)
	}
	if b, err := head.Show(h); len(b) != 0 || err != want {
		t.Errorf("Show of %.200q: %.200q, error %d, want %d", h, b, err, want)
	}
}

// P5.2 and P5.3: the chapter's example.
func TestShowExample(t *testing.T) {
	may(t, made([3]string{"GET", "/", "HTTP/1.1"}, [2]string{"Host", "a"}), example)
}

// P5.2 and P5.3: heads that may be, as bytes.
func TestShowHeads(t *testing.T) {
	for _, x := range []struct {
		h    api.Head
		want string
	}{
		{made([3]string{"a", "b"}), "a b \r\n\r\n"},
		{made([3]string{"a", "b", "c"}), "a b c\r\n\r\n"},
		{made([3]string{"a", "b", "c d  e"}), "a b c d  e\r\n\r\n"},
		{made([3]string{"a", "b", ""}, [2]string{"x", ""}), "a b \r\nx: \r\n\r\n"},
		{made([3]string{"a:", ":b", ": c"}, [2]string{"x", ": y"}), "a: :b : c\r\nx: : y\r\n\r\n"},
		{made([3]string{"!", "~", "! ~"}, [2]string{"~!", "! ~"}), "! ~ ! ~\r\n~!: ! ~\r\n\r\n"},
		{made([3]string{"a", "b", "c"}, [2]string{"x", "1"}, [2]string{"X", "2"}, [2]string{"x", "1"}, [2]string{"y", ""}), "a b c\r\nx: 1\r\nX: 2\r\nx: 1\r\ny: \r\n\r\n"},
		{made([3]string{"HTTP/1.1", "101", "Switching Protocols"}, [2]string{"Upgrade", "websocket"}, [2]string{"Connection", "Upgrade"}), "HTTP/1.1 101 Switching Protocols\r\nUpgrade: websocket\r\nConnection: Upgrade\r\n\r\n"},
	} {
		may(t, x.h, x.want)
	}
	may(t, api.Head{First: [3]string{"a", "b", "c"}, Fields: []api.Field{}}, "a b c\r\n\r\n")
}

// P5.2: parts that are empty: only a third one, and a value, may be.
func TestCheckEmptyParts(t *testing.T) {
	for _, first := range [][3]string{{}, {"a", "", ""}, {"", "b", ""}, {"", "", "c"}, {"", "b", "c"}, {"a", "", "c"}} {
		mayNot(t, made(first), api.ErrHeadForm)
		mayNot(t, made(first, [2]string{"x", "y"}), api.ErrHeadForm)
	}
	for _, l := range [][][2]string{{{"", "y"}}, {{"", ""}}, {{"x", "y"}, {"", "y"}}, {{"", "y"}, {"x", "y"}}} {
		mayNot(t, made([3]string{"a", "b", "c"}, l...), api.ErrHeadForm)
	}
	mayNot(t, api.Head{}, api.ErrHeadForm)
}

// P5.2: parts and values that begin or end with a blank, or have one where none may be.
func TestCheckBlanks(t *testing.T) {
	for _, s := range []string{" ", "  ", " x", "x ", " x ", "x y ", " x y", "\t", "\tx", "x\t", "x\ty", "\r", "\n", "x\r", "x\n", "\r\nx", "x\r\ny", "x\r\n"} {
		mayNot(t, made([3]string{s, "b", "c"}), api.ErrHeadForm)
		mayNot(t, made([3]string{"a", s, "c"}), api.ErrHeadForm)
		mayNot(t, made([3]string{"a", "b", s}), api.ErrHeadForm)
		mayNot(t, made([3]string{"a", "b", "c"}, [2]string{s, "y"}), api.ErrHeadForm)
		mayNot(t, made([3]string{"a", "b", "c"}, [2]string{"x", s}), api.ErrHeadForm)
		mayNot(t, made([3]string{"a", "b", "c"}, [2]string{"x", "y"}, [2]string{"x", s}, [2]string{"x", "y"}), api.ErrHeadForm)
	}
	for _, s := range []string{"x y", "x  y", "x y z"} {
		mayNot(t, made([3]string{s, "b", "c"}), api.ErrHeadForm)
		mayNot(t, made([3]string{"a", s, "c"}), api.ErrHeadForm)
		mayNot(t, made([3]string{"a", "b", "c"}, [2]string{s, "y"}), api.ErrHeadForm)
		may(t, made([3]string{"a", "b", s}, [2]string{"x", s}), "a b "+s+"\r\nx: "+s+"\r\n\r\n")
	}
}

// P5.2: each byte as each part, and at each part's beginning, within it, and at its end.
func TestCheckEachByte(t *testing.T) {
	judge := func(ok bool, h api.Head, s string) {
		t.Helper()
		if ok {
			may(t, h, s+end)
		} else {
			mayNot(t, h, api.ErrHeadForm)
		}
	}
	for value := range 256 {
		c := string([]byte{byte(value)})
		for _, part := range []string{c, c + "x", "x" + c + "x", "x" + c} {
			word := value >= 33 && value <= 126
			text := word || value == 32 && part == "x x"
			judge(word, made([3]string{part, "b", "c"}), part+" b c")
			judge(word, made([3]string{"a", part, "c"}), "a "+part+" c")
			judge(text, made([3]string{"a", "b", part}), "a b "+part)
			judge(tokenByte(byte(value)), made([3]string{"a", "b", "c"}, [2]string{part, "e"}), "a b c\r\n"+part+": e")
			judge(text, made([3]string{"a", "b", "c"}, [2]string{"d", part}), "a b c\r\nd: "+part)
		}
	}
}

// P5.2: 32 fields may be, 33 are too many.
func TestCheckManyFields(t *testing.T) {
	for _, n := range []int{1, 31, 32} {
		may(t, made([3]string{"a", "b", "c"}, slices.Repeat([][2]string{{"x", "y"}}, n)...), "a b c\r\n"+strings.Repeat("x: y\r\n", n)+"\r\n")
	}
	for _, n := range []int{33, 34, 64, 65, 1000} {
		mayNot(t, made([3]string{"a", "b", "c"}, slices.Repeat([][2]string{{"x", "y"}}, n)...), api.ErrHeadLong)
	}
}

// P5.2: 2048 bytes may be, 2049 are too many, wherever they are.
func TestCheckManyBytes(t *testing.T) {
	const rest = len("a b c\r\nx: y\r\n\r\n")
	for n, want := range map[int]api.Errno{2046: api.OK, 2047: api.OK, 2048: api.OK, 2049: api.ErrHeadLong, 2050: api.ErrHeadLong, 5000: api.ErrHeadLong, 100000: api.ErrHeadLong} {
		long := strings.Repeat("l", n-rest+1)
		for _, h := range []api.Head{
			made([3]string{long, "b", "c"}, [2]string{"x", "y"}),
			made([3]string{"a", long, "c"}, [2]string{"x", "y"}),
			made([3]string{"a", "b", long}, [2]string{"x", "y"}),
			made([3]string{"a", "b", "c"}, [2]string{long, "y"}),
			made([3]string{"a", "b", "c"}, [2]string{"x", long}),
		} {
			if want != api.OK {
				mayNot(t, h, want)
				continue
			}
			may(t, h, h.First[0]+" "+h.First[1]+" "+h.First[2]+"\r\n"+h.Fields[0].Name+": "+h.Fields[0].Value+"\r\n\r\n")
		}
	}
	for n, want := range map[int]api.Errno{2048: api.OK, 2049: api.ErrHeadLong} { // of 32 fields, so that what stands round each counts
		l := slices.Repeat([][2]string{{"x", ""}}, 32)
		l[31][1] = strings.Repeat("v", n-len("a b c\r\n")-32*len("x: \r\n")-2)
		h := made([3]string{"a", "b", "c"}, l...)
		if err := head.Check(h); err != want {
			t.Errorf("Check of 32 fields in %d bytes: error %d, want %d", n, err, want)
		}
		if b, err := head.Show(h); err != want || err == api.OK && len(b) != n {
			t.Errorf("Show of 32 fields in %d bytes: %d bytes, error %d, want %d", n, len(b), err, want)
		}
	}
	mayNot(t, made([3]string{"a", "b", strings.Repeat("c", 2041)}), api.ErrHeadLong)
	may(t, made([3]string{"a", "b", strings.Repeat("c", 2040)}), "a b "+strings.Repeat("c", 2040)+end)
}

// P5.2: which error is told: that it may not be, ahead of too many fields, or bytes.
func TestCheckWhichError(t *testing.T) {
	long := strings.Repeat("l", 3000)
	for _, n := range []int{0, 1, 32, 33, 40} {
		l := slices.Repeat([][2]string{{"x", "y"}}, n)
		for _, value := range []string{"y", long} {
			behind := append(slices.Clone(l), [2]string{"x", value})
			mayNot(t, made([3]string{"a", "", value}, behind...), api.ErrHeadForm)
			mayNot(t, made([3]string{"a b", value, "c"}, behind...), api.ErrHeadForm)
			mayNot(t, made([3]string{value, "b", "c "}, behind...), api.ErrHeadForm)
			mayNot(t, made([3]string{"a", "b", value}, append(behind, [2]string{"", "y"})...), api.ErrHeadForm)
			mayNot(t, made([3]string{"a", "b", value}, append(behind, [2]string{"x", value + " "})...), api.ErrHeadForm)
			mayNot(t, made([3]string{"a", "b", "c"}, append([][2]string{{"x y", value}}, l...)...), api.ErrHeadForm)
			mayNot(t, made([3]string{"a", "b", "c"}, append([][2]string{{"x", value + "\x7f"}}, l...)...), api.ErrHeadForm)
		}
	}
	mayNot(t, made([3]string{"a", "b", long}, slices.Repeat([][2]string{{"x", long}}, 33)...), api.ErrHeadLong)
	mayNot(t, api.Head{First: [3]string{"a", "b", "c"}, Fields: make([]api.Field, 33)}, api.ErrHeadForm)
}

// P5.2: Check and Show of what Read told: only its bytes may be too many.
func TestCheckOfRead(t *testing.T) {
	for _, s := range samples {
		h, _, err := head.Read([]byte(s))
		if err != api.OK || head.Check(h) != api.OK {
			t.Errorf("Read of %q: %q, error %d, Check %d", s, h, err, head.Check(h))
		}
	}
	h, _, err := head.Read([]byte("a b " + strings.Repeat("c", 2048-len("a b \r\nx:\r\n\r\n")) + "\r\nx:\r\n\r\n"))
	if err != api.OK {
		t.Fatalf("Read of 2048 bytes: error %d", err)
	}
	mayNot(t, h, api.ErrHeadLong)
}

// The rules: what Show tells is its own, and heads stay as they are, spare room included.
func TestShowIsItsOwn(t *testing.T) {
	room := []api.Field{{Name: "x", Value: "y"}, {Name: "spare"}, {Value: "room"}}
	before := slices.Clone(room)
	h := api.Head{First: [3]string{"a", "b", "c"}, Fields: room[:1]}
	const want = "a b c\r\nx: y\r\n\r\n"
	one, _ := head.Show(h)
	other, _ := head.Show(h)
	for i := range one {
		one[i] ^= 0xff
	}
	_ = append(one, "more"...)
	if string(other) != want {
		t.Errorf("Show, behind a change of another answer: %q", other)
	}
	clear(other[:cap(other)])
	may(t, h, want)
	head.Check(h)
	head.Get(h, "x")
	if !slices.Equal(room, before) {
		t.Errorf("what was handed in is changed: %q", room)
	}
	room[0].Value = "z"
	kept, _ := head.Show(h)
	room[0].Value = "other"
	if string(kept) != "a b c\r\nx: z\r\n\r\n" {
		t.Errorf("Show of a changed head: %q", kept)
	}
}

// P5.3: every head of some parts that may be is itself again, whatever stands behind.
func TestItselfAgain(t *testing.T) {
	words := []string{"a", "GET", ":", "!~", "/a?b=c#d"}
	texts := []string{"", "c", "c d", "a: b", ":", "~  !", "HTTP/1.1"}
	names := []string{"x", "Host", "sec-websocket-key", "!#$%&'*+-.^_`|~", "0"}
	for _, a := range words {
		for _, b := range words {
			for _, c := range texts {
				h := made([3]string{a, b, c})
				for _, name := range names {
					for _, value := range texts {
						h.Fields = append(h.Fields, api.Field{Name: name, Value: value})
						if len(h.Fields) == 6 {
							h.Fields = h.Fields[1:]
						}
						shown, err := head.Show(h)
						if err != api.OK || !bytes.HasSuffix(shown, []byte(end)) {
							t.Fatalf("Show of %q: %q, error %d", h, shown, err)
						}
						reads(t, string(shown), h, len(shown))
						reads(t, string(shown)+"\r\nbehind", h, len(shown))
					}
				}
			}
		}
	}
}

// P1, P5.2 and P5.3: whatever head there is: Check and Show answer, and what may be is itself again.
func FuzzShow(f *testing.F) {
	f.Add("GET", "/", "HTTP/1.1", "Host", "a", "x", "", 1)
	f.Add("", "", "", "", "", "", "", 0)
	f.Add("a", "b", "c d", "x", "y z", "x", " ", 33)
	f.Add("a", "b", " ", "x:", "\r\n", "\xff", "\x00", 17)
	f.Fuzz(func(t *testing.T, a, b, c, name, value, name2, value2 string, n int) {
		h := made([3]string{a, b, c})
		for range max(0, min(n, 40)) {
			h.Fields = append(h.Fields, api.Field{Name: name, Value: value}, api.Field{Name: name2, Value: value2})
		}
		all := a + " " + b + " " + c + "\r\n"
		for _, f := range h.Fields {
			all += f.Name + ": " + f.Value + "\r\n"
		}
		all += "\r\n"
		one := made(h.First)
		one.Fields = h.Fields[:min(2, len(h.Fields))]
		short := a + " " + b + " " + c + "\r\n"
		for _, f := range one.Fields {
			short += f.Name + ": " + f.Value + "\r\n"
		}
		m := wholeForm.FindStringSubmatch(short + "\r\n")
		form := m != nil && m[1] == a && m[2] == b && m[3] == c && strings.Count(short, "\r\n") == 1+len(one.Fields)
		for _, f := range one.Fields {
			form = form && !strings.Contains(f.Name, ":") && strings.Trim(f.Value, " \t") == f.Value
		}
		switch {
		case !form:
			mayNot(t, h, api.ErrHeadForm)
		case len(h.Fields) > 32 || len(all) > 2048:
			mayNot(t, h, api.ErrHeadLong)
		default:
			may(t, h, all)
		}
	})
}
