package head_test

import (
	"bytes"
	"regexp"
	"slices"
	"strings"
	"testing"

	"pendentive/api"
	"pendentive/head"
)

const (
	example = "GET / HTTP/1.1\r\nHost: a\r\n\r\n"
	end     = "\r\n\r\n"
)

// made is a head of a first line's parts and of fields, each a name and a value.
func made(first [3]string, fields ...[2]string) api.Head {
	h := api.Head{First: first}
	for _, f := range fields {
		h.Fields = append(h.Fields, api.Field{Name: f[0], Value: f[1]})
	}
	return h
}

// equal is whether two heads are one: nil and empty lists are.
func equal(a, b api.Head) bool { return a.First == b.First && slices.Equal(a.Fields, b.Fields) }

// read is Read's answer, and looks whether what was handed in stays as it was, spare room included.
func read(t *testing.T, s string) (api.Head, int, api.Errno) {
	t.Helper()
	room := []byte(s + "spare room")
	before := bytes.Clone(room)
	h, n, err := head.Read(room[:len(s)])
	if !bytes.Equal(room, before) {
		t.Fatalf("Read of %.80q: what was handed in is changed", s)
	}
	return h, n, err
}

// reads asks that bytes begin with a head of n bytes.
func reads(t *testing.T, s string, want api.Head, n int) {
	t.Helper()
	if h, got, err := read(t, s); !equal(h, want) || got != n || err != api.OK {
		t.Errorf("Read of %.80q: %.200q, %d, error %d; want %.200q, %d", s, h, got, err, want, n)
	}
}

// fails asks that bytes are answered by an error, and by nothing else.
func fails(t *testing.T, s string, want api.Errno) {
	t.Helper()
	if h, n, err := read(t, s); !equal(h, api.Head{}) || n != 0 || err != want {
		t.Errorf("Read of %.80q (%d bytes): %.200q, %d, error %d; want error %d", s, len(s), h, n, err, want)
	}
}

// wholeForm and fieldForm say what a head is in another program's words.
var (
	wholeForm = regexp.MustCompile(`\A([!-~]+) ([!-~]+) ((?:[!-~](?:[ -~]*[!-~])?)?)\r\n((?:[0-9A-Za-z!#$%&'*+.^_` + "`" + `|~-]+:[ \t]*(?:[!-~](?:[ -~]*[!-~])?)?[ \t]*\r\n)*)\r\n\z`)
	fieldForm = regexp.MustCompile(`([^:\r\n]+):[ \t]*((?:[!-~](?:[ -~]*[!-~])?)?)[ \t]*\r\n`)
)

// wanted is what Read ought to answer, by those words.
func wanted(s string) (api.Head, int, api.Errno) {
	at := strings.Index(s[:min(len(s), 2048)], end)
	if at < 0 && len(s) < 2048 {
		return api.Head{}, 0, api.ErrHeadMore
	}
	if at < 0 {
		return api.Head{}, 0, api.ErrHeadLong
	}
	m := wholeForm.FindStringSubmatch(s[:at+4])
	if m == nil {
		return api.Head{}, 0, api.ErrHeadForm
	}
	h := made([3]string{m[1], m[2], m[3]})
	for _, f := range fieldForm.FindAllStringSubmatch(m[4], -1) {
		h.Fields = append(h.Fields, api.Field{Name: f[1], Value: f[2]})
	}
	if len(h.Fields) > 32 {
		return api.Head{}, 0, api.ErrHeadLong
	}
	return h, at + 4, api.OK
}

// agrees holds Read's answer against those words.
func agrees(t *testing.T, s string) {
	t.Helper()
	if h, n, err := wanted(s); err != api.OK {
		fails(t, s, err)
	} else {
		reads(t, s, h, n)
	}
}

// samples are bytes that begin with heads, from which wrong ones are made.
var samples = []string{
	example,
	"A b \r\n\r\n",
	"HTTP/1.1 101 Switching Protocols\r\nx:\r\n\r\n",
	"GET /chat?a=b HTTP/1.1\r\nHost: a.b\r\nx-Y:\t 1, 2 \t\r\nX-y: a : b\r\nz: \t \r\n\r\nrest\r\n\r\n",
}

// P5.1: the chapter's example.
func TestReadExample(t *testing.T) {
	reads(t, example, made([3]string{"GET", "/", "HTTP/1.1"}, [2]string{"Host", "a"}), 27)
}

// P5.1: a head without fields, with one, and with many; parts and values as they are told, in order.
func TestReadHeads(t *testing.T) {
	for _, x := range []struct {
		bytes string
		want  api.Head
	}{
		{"GET / HTTP/1.1\r\n\r\n", made([3]string{"GET", "/", "HTTP/1.1"})},
		{"a b c\r\n\r\n", made([3]string{"a", "b", "c"})},
		{"! ~ !~\r\n\r\n", made([3]string{"!", "~", "!~"})},
		{": :: :\r\n\r\n", made([3]string{":", "::", ":"})},
		{"HTTP/1.1 101 Switching Protocols\r\n\r\n", made([3]string{"HTTP/1.1", "101", "Switching Protocols"})},
		{"HTTP/1.1 404 a  b   c\r\n\r\n", made([3]string{"HTTP/1.1", "404", "a  b   c"})},
		{"HTTP/1.1 101 \r\n\r\n", made([3]string{"HTTP/1.1", "101", ""})},
		{"HTTP/1.1 101 \r\na: b\r\n\r\n", made([3]string{"HTTP/1.1", "101", ""}, [2]string{"a", "b"})},
		{"a b c\r\nx: 1\r\ny: 2\r\nx: 3\r\nX: 4\r\n\r\n", made([3]string{"a", "b", "c"}, [2]string{"x", "1"}, [2]string{"y", "2"}, [2]string{"x", "3"}, [2]string{"X", "4"})},
		{"a b c\r\nHost: a.b:80\r\n\r\n", made([3]string{"a", "b", "c"}, [2]string{"Host", "a.b:80"})},
		{"a b c\r\n!#$%&'*+-.^_`|~: \"(),/:;<=>?@[\\]{}\r\n\r\n", made([3]string{"a", "b", "c"}, [2]string{"!#$%&'*+-.^_`|~", "\"(),/:;<=>?@[\\]{}"})},
	} {
		reads(t, x.bytes, x.want, len(x.bytes))
	}
}

// P5.1: of nothing, nil or empty: ErrHeadMore.
func TestReadNothing(t *testing.T) {
	for _, b := range [][]byte{nil, {}, []byte(example)[:0]} {
		if h, n, err := head.Read(b); !equal(h, api.Head{}) || n != 0 || err != api.ErrHeadMore {
			t.Errorf("Read of nothing: %q, %d, error %d", h, n, err)
		}
	}
	fails(t, "", api.ErrHeadMore)
}

// P5.1: bytes that end within a head, or within its end: ErrHeadMore; with its end, or behind it: the head.
func TestReadPieces(t *testing.T) {
	for _, s := range samples {
		whole := strings.Index(s, end) + 4
		want, _, _ := wanted(s)
		for n := range whole {
			fails(t, s[:n], api.ErrHeadMore)
		}
		for n := whole; n <= len(s); n++ {
			reads(t, s[:n], want, whole)
		}
		reads(t, s[:whole]+"\r", want, whole)
		reads(t, s[:whole]+"\n", want, whole)
	}
	for _, s := range []string{"\r", "\r\n", "\r\n\r", "\n\r\n\r", "\n\n", "\r\r", "\r\n\n\r", "a b c\r\n", "a b c\n\n", "a b c\r\r\n\n", "a b c\r\n\r\r\n", "a b c\n\r\n\r", "\x00\xff", "no head"} {
		fails(t, s, api.ErrHeadMore)
	}
}

// ending is a head of just n bytes.
func ending(n int) (string, api.Head) {
	third := strings.Repeat("c", n-len("a b "+end))
	return "a b " + third + end, made([3]string{"a", "b", third})
}

// P5.1: 2047, 2048 and 2049 bytes without an end.
func TestReadBoundWithoutEnd(t *testing.T) {
	for _, line := range []string{"a", " ", "\r\n", "\n\r", "\r", "\x00", "a b c\r\nx: y\r\n"} {
		long := strings.Repeat(line, 2100)
		for _, n := range []int{1, 1024, 2046, 2047} {
			if !strings.Contains(long[:n], end) {
				fails(t, long[:n], api.ErrHeadMore)
			}
		}
		for _, n := range []int{2048, 2049, 2050, 2051, 2052, 2100} {
			if !strings.Contains(long[:n], end) {
				fails(t, long[:n], api.ErrHeadLong)
			}
		}
	}
	fails(t, strings.Repeat("a", 1<<20), api.ErrHeadLong)
}

// P5.1: 2047, 2048 and 2049 bytes with an end, just at byte 2048, around it, and far ahead of it.
func TestReadBoundWithEnd(t *testing.T) {
	for _, rest := range []string{"", "\r", "\r\n", "\r\n\r", end, "rest", strings.Repeat("r", 3000)} {
		for _, n := range []int{8, 100, 2044, 2045, 2046, 2047, 2048} {
			s, h := ending(n)
			reads(t, s+rest, h, n)
		}
		for _, n := range []int{2049, 2050, 2051, 2052, 2053, 4096} {
			s, _ := ending(n)
			fails(t, s+rest, api.ErrHeadLong)
		}
	}
	for _, n := range []int{2047, 2048, 2049} {
		h, length, _ := wanted(example)
		reads(t, example+strings.Repeat("r", n-len(example)), h, length)
	}
	s, _ := ending(2048)
	fails(t, s[:2047], api.ErrHeadMore)
	s, _ = ending(2049)
	fails(t, s[:2047], api.ErrHeadMore)
	fails(t, s[:2048], api.ErrHeadLong)
}

// P5.1: first lines that are none, alone and ahead of a field.
func TestReadWrongFirst(t *testing.T) {
	for _, line := range []string{
		"", " ", "  ", "   ", "a", "GET", "GET ", " GET", "GET /", " GET /", "GET/HTTP/1.1", // too few blanks, or nothing between them
		"GET  / HTTP/1.1", "GET /  HTTP/1.1", "GET  /", "GET  / ", "  / HTTP/1.1", " / HTTP/1.1", " GET / HTTP/1.1", // two blanks one behind another, or one ahead
		"GET /  ", "GET / HTTP/1.1 ", "GET /  a", "GET / a b ", "GET /  a ", // a third part that begins or ends with one
		"GET\t/\tHTTP/1.1", "GET\t/ HTTP/1.1", "GET /\tHTTP/1.1", "GET / HTTP\t1.1", "\tGET / HTTP/1.1", "GET / \tHTTP/1.1", "GET / HTTP/1.1\t", "GET / \t",
		"Host: a", "Host:a",
	} {
		fails(t, line+"\r\n\r\n", api.ErrHeadForm)
		if line != "" {
			fails(t, line+"\r\nHost: a\r\n\r\n", api.ErrHeadForm)
		}
	}
	fails(t, "\r\n\r\n"+example, api.ErrHeadForm)
	fails(t, "\r\n"+example, api.ErrHeadForm)
}

// P5.1: fields, with blanks round their values, within them and without; and what is none.
func TestReadFields(t *testing.T) {
	for _, x := range []struct{ line, name, value string }{
		{"a:b", "a", "b"}, {"a: b", "a", "b"}, {"a:  b", "a", "b"}, {"a:\tb", "a", "b"}, {"a: \t \tb", "a", "b"},
		{"a:b ", "a", "b"}, {"a:b\t", "a", "b"}, {"a:b \t ", "a", "b"}, {"a: b ", "a", "b"}, {"a:\t b\t ", "a", "b"},
		{"a: b c", "a", "b c"}, {"a: b  c d ", "a", "b  c d"}, {"a:b c", "a", "b c"},
		{"a:", "a", ""}, {"a: ", "a", ""}, {"a:\t", "a", ""}, {"a: \t \t", "a", ""},
		{"a::", "a", ":"}, {"a: :", "a", ":"}, {"a:b:c", "a", "b:c"}, {"a: b : c", "a", "b : c"}, {"a: : ", "a", ":"},
		{"9:0", "9", "0"}, {"~: ~", "~", "~"}, {"a-B_c: !", "a-B_c", "!"},
	} {
		s := "GET / HTTP/1.1\r\n" + x.line + "\r\n\r\n"
		reads(t, s, made([3]string{"GET", "/", "HTTP/1.1"}, [2]string{x.name, x.value}), len(s))
		s = "GET / HTTP/1.1\r\nx: y\r\n" + x.line + "\r\nz: \r\n\r\n"
		reads(t, s, made([3]string{"GET", "/", "HTTP/1.1"}, [2]string{"x", "y"}, [2]string{x.name, x.value}, [2]string{"z", ""}), len(s))
	}
	for _, line := range []string{
		"a", "ab c", " ", "\t", "GET / HTTP/1.1", // without a colon
		":", ": b", ":b", "::", " : b", "\t: b", // with an empty name, or one of blanks
		"a : b", "a\t: b", "a :", " a: b", "\ta: b", "a b: c", "a\tb: c", // with a blank ahead of the colon
		"a,: b", "(a): b", "a/b: c", "\"a\": b", "a=: b", "a@: b", "[a]: b", "{a}: b", "\\: b", "a;: b", "a<: b", "a>: b", "a?: b",
		"a: b\tc", "a:b\t\tc", "a: b \t c", "a: \tb\tc\t", // with a blank of another kind within the value
	} {
		fails(t, "GET / HTTP/1.1\r\n"+line+end, api.ErrHeadForm)
		fails(t, "GET / HTTP/1.1\r\nx: y\r\n"+line+end, api.ErrHeadForm)
		fails(t, "GET / HTTP/1.1\r\n"+line+"\r\nx: y\r\n\r\n", api.ErrHeadForm)
	}
}

// P5.1: each byte as each part, and at each part's beginning, within it, and at its end.
func TestReadEachByte(t *testing.T) {
	for value := range 256 {
		c := string([]byte{byte(value)})
		for _, part := range []string{c, c + "x", "x" + c + "x", "x" + c} {
			word := value >= 33 && value <= 126
			for _, x := range []struct {
				s     string
				may   bool
				first [3]string
				field [2]string
			}{
				{part + " b c\r\nd: e", word, [3]string{part, "b", "c"}, [2]string{"d", "e"}},
				{"a " + part + " c\r\nd: e", word, [3]string{"a", part, "c"}, [2]string{"d", "e"}},
				{"a b " + part + "\r\nd: e", word || value == 32 && part == "x x", [3]string{"a", "b", part}, [2]string{"d", "e"}},
				{"a b c\r\nd: " + part, word || value == 32 && part == "x x", [3]string{"a", "b", "c"}, [2]string{"d", part}},
			} {
				if !x.may && (value == 32 || value == 9 && x.first == [3]string{"a", "b", "c"}) {
					agrees(t, x.s+end) // blanks at a place where they divide, or stand round a value
				} else if !x.may {
					fails(t, x.s+end, api.ErrHeadForm)
				} else {
					reads(t, x.s+end, made(x.first, x.field), len(x.s+end))
				}
			}
			if s := "a b c\r\n" + part + ": e"; tokenByte(byte(value)) {
				reads(t, s+end, made([3]string{"a", "b", "c"}, [2]string{part, "e"}), len(s+end))
			} else {
				agrees(t, s+end) // a colon ends the name ahead, so that some of these are fields, too
				if value != ':' {
					fails(t, s+end, api.ErrHeadForm)
				}
			}
		}
	}
}

// P5.1: 13 or 10 alone, in every place, put between others or instead of them.
func TestReadLineBytesAlone(t *testing.T) {
	const s = "GET / HTTP/1.1\r\nHost: a\r\nx:\r\ny: b c \r\n\r\n"
	const last = len(s) - 4
	for at := range last + 1 {
		for _, c := range []string{"\r", "\n", "\n\r", "\r\r", "\n\n"} {
			if c != "\n\r" || at == 0 || s[at-1] != '\r' { // within 13, 10 these two would make the end of a shorter head
				fails(t, s[:at]+c+s[at:]+end, api.ErrHeadForm)
			}
		}
	}
	for at := range last {
		for _, c := range []string{"\r", "\n", "\n\r", "\r\r", "\n\n"} {
			if s[at:at+1] != c {
				fails(t, s[:at]+c+s[at+1:]+end, api.ErrHeadForm)
			}
		}
	}
	for _, line := range []string{"\r\n", "\r\n\n", "\r\r\n", "\n\r\n"} {
		fails(t, "GET / HTTP/1.1\nHost: a"+line+end, api.ErrHeadForm)
		fails(t, "GET / HTTP/1.1\rHost: a"+line+end, api.ErrHeadForm)
	}
	fails(t, "GET / HTTP/1.1\r\nHost: a\r\n b\r\n\r\n", api.ErrHeadForm) // a line that goes on in the next one is none
	fails(t, "GET / HTTP/1.1\r\nHost: a\r\n\tb\r\n\r\n", api.ErrHeadForm)
	fails(t, "GET / HTTP/1.1\r\nHost: a\r\n b: c\r\n\r\n", api.ErrHeadForm)
}

// P5.1: each byte left out, put in and put instead of another, everywhere, against another program's words.
func TestReadNeighbours(t *testing.T) {
	for _, s := range samples {
		agrees(t, s)
		for at := range len(s) {
			agrees(t, s[:at]+s[at+1:])
			agrees(t, s[:at]+s[at:at+1]+s[at:])
			for _, c := range "\x00\t\n\v\r\x1f !\"(,-/09:;@AZ[`az{|~\x7f\u0080\u00ff" {
				one := string([]byte{byte(c)})
				agrees(t, s[:at]+one+s[at:])
				agrees(t, s[:at]+one+s[at+1:])
				agrees(t, s[:at]+one+s[at:]+end)
			}
		}
	}
}

// P5.1: all short texts of some bytes that matter, as first lines and as fields, against another program's words.
func TestReadShortLines(t *testing.T) {
	const letters = "a: \t\r\n\x7f"
	lines := []string{""}
	for from := 0; len(lines[len(lines)-1]) < 5; from++ {
		for i := range len(letters) {
			lines = append(lines, lines[from]+letters[i:i+1])
		}
	}
	for _, line := range lines {
		agrees(t, line+end)
		agrees(t, "a b c\r\n"+line+end)
	}
}

// fields is so many fields as bytes, and as they are told.
func fields(n int) (string, [][2]string) {
	var s string
	var l [][2]string
	for i := range n {
		value := strings.Repeat("v", i%3)
		s += "a:" + value + "\r\n"
		l = append(l, [2]string{"a", value})
	}
	return s, l
}

// P5.1: 32 fields are a head, 33 are too many.
func TestReadManyFields(t *testing.T) {
	for _, n := range []int{0, 1, 2, 31, 32} {
		s, l := fields(n)
		s = "a b c\r\n" + s + "\r\n"
		reads(t, s, made([3]string{"a", "b", "c"}, l...), len(s))
		reads(t, s+"a: b\r\n\r\n", made([3]string{"a", "b", "c"}, l...), len(s))
	}
	for _, n := range []int{33, 34, 64, 200} {
		s, _ := fields(n)
		fails(t, "a b c\r\n"+s+"\r\n", api.ErrHeadLong)
	}
	s := "a b c\r\n" + strings.Repeat(":b\r\n", 32)
	fails(t, s+"\r\n", api.ErrHeadForm)
}

// P5.1: which of two errors is told: too long ahead of no head, no head ahead of too many fields.
func TestReadWhichError(t *testing.T) {
	for _, n := range []int{32, 33, 34, 100} {
		s, _ := fields(n)
		fails(t, "a b\r\n"+s+"\r\n", api.ErrHeadForm)
		fails(t, " a b c\r\n"+s+"\r\n", api.ErrHeadForm)
		fails(t, "a b c\r\n"+s+"a\r\n\r\n", api.ErrHeadForm)
		fails(t, "a b c\r\nx y: z\r\n"+s+"\r\n", api.ErrHeadForm)
		half, _ := fields(n / 2)
		fails(t, "a b c\r\n"+half+"a: \x7f\r\n"+half+"\r\n", api.ErrHeadForm)
		fails(t, "a b c\r\n"+s+"a: b\x00", api.ErrHeadMore)
		fails(t, "a b\r\n"+s, api.ErrHeadMore)
		fails(t, "a b\r\n"+s+"a: "+strings.Repeat("b", 2048)+"\r\n\r\n", api.ErrHeadLong)
	}
	s, _ := ending(2048)
	fails(t, " "+s[1:], api.ErrHeadForm)
	s, _ = ending(2049)
	fails(t, " "+s[1:], api.ErrHeadLong)
	fails(t, "\x00"+strings.Repeat("a", 2046), api.ErrHeadMore)
	fails(t, "\x00"+strings.Repeat("a", 2047), api.ErrHeadLong)
	fails(t, "\r\n\r\n"+strings.Repeat("a", 3000), api.ErrHeadForm)
}

// P5.1: bytes that are a head just within the bound are one, though shown, with a blank behind each colon, they would be longer.
func TestReadGreatest(t *testing.T) {
	value := strings.Repeat("v", 2048-len("a b c\r\n"+"x:\r\n\r\n"))
	reads(t, "a b c\r\nx:"+value+end, made([3]string{"a", "b", "c"}, [2]string{"x", value}), 2048)
	fails(t, "a b c\r\nx: "+value+end, api.ErrHeadLong)
	reads(t, "a b c\r\nx: "+value[1:]+end, made([3]string{"a", "b", "c"}, [2]string{"x", value[1:]}), 2048)
}

// P5.3: what stands behind a head doesn't matter.
func TestReadBehind(t *testing.T) {
	rests := []string{"", "a", "\r", "\n", "\r\n", end, example, "\x00\xff\x7f", " ", strings.Repeat("r", 5000), strings.Repeat("a:b\r\n", 40) + "\r\n"}
	for value := range 256 {
		rests = append(rests, string([]byte{byte(value)}))
	}
	for _, s := range samples[:3] {
		want, n, _ := wanted(s)
		for _, rest := range rests {
			reads(t, s+rest, want, n)
		}
	}
	for _, rest := range rests {
		fails(t, "a b\r\n\r\n"+rest, api.ErrHeadForm)
		s, _ := fields(33)
		fails(t, "a b c\r\n"+s+"\r\n"+rest, api.ErrHeadLong)
	}
}

// The rules: what Read tells is its own: neither bytes that change later, nor another answer that does, change it.
func TestReadIsItsOwn(t *testing.T) {
	for _, s := range samples {
		b := []byte(s)
		want, n, _ := wanted(s)
		one, _, _ := head.Read(b)
		other, _, _ := head.Read(b)
		for i := range b {
			b[i] ^= 0xff
		}
		if !equal(one, want) || !equal(other, want) {
			t.Errorf("%q and %q, behind a change of what was handed in; want %q", one, other, want)
		}
		one.First[0] = "other"
		for i := range one.Fields {
			one.Fields[i] = api.Field{Name: "other", Value: "other"}
		}
		_ = append(one.Fields, api.Field{Name: "more"})
		if !equal(other, want) {
			t.Errorf("%q, behind a change of another answer; want %q", other, want)
		}
		reads(t, s, want, n)
	}
}

// P1, P5.1 and P5.3: whatever comes: Read answers by the other program's words, and what may be is itself again.
func FuzzRead(f *testing.F) {
	for _, s := range samples {
		f.Add([]byte(s))
		f.Add([]byte(s[:len(s)/2]))
	}
	many, _ := fields(33)
	f.Add([]byte("a b c\r\n" + many + "\r\n"))
	long, _ := ending(2049)
	f.Add([]byte(long))
	f.Fuzz(func(t *testing.T, b []byte) {
		agrees(t, string(b))
		h, _, err := head.Read(b)
		if err != api.OK || head.Check(h) != api.OK {
			return
		}
		shown, err := head.Show(h)
		if err != api.OK {
			t.Fatalf("Show of %q: error %d", h, err)
		}
		reads(t, string(shown)+"behind", h, len(shown))
	})
}
