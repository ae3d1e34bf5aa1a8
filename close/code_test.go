package close_test

import (
	"math"
	"testing"

	"pendentive/api"
	"pendentive/close"
)

// spans are the codes that may be sent, from the lowest to the highest of each, as the chapter lists them.
var spans = []struct{ low, high int }{{1000, 1003}, {1007, 1011}, {3000, 4999}}

// edges are the codes at the ends of the spans, and each next to one that may not be sent, by the chapter's words alone.
var edges = []struct {
	code int
	sent bool
}{
	{999, false}, {1000, true}, {1001, true}, {1002, true}, {1003, true}, {1004, false}, {1005, false},
	{1006, false}, {1007, true}, {1008, true}, {1009, true}, {1010, true}, {1011, true}, {1012, false}, {1013, false}, {1014, false}, {1015, false},
	{2999, false}, {3000, true}, {3001, true}, {3999, true}, {4000, true}, {4998, true}, {4999, true}, {5000, false},
	{-1, false}, {0, false}, {1, false}, {125, false}, {255, false}, {256, false}, {2000, false}, {32767, false}, {32768, false}, {65535, false}, {65536, false},
	{-1000, false}, {-3000, false}, {math.MinInt, false}, {math.MinInt + 1, false}, {math.MaxInt - 1, false}, {math.MaxInt, false},
}

// turns are what a number may lie beside one of two bytes, of four or of eight that has the same lowest bits.
var turns = []int{-1 << 32, -1 << 31, -1 << 17, -1 << 16, 1 << 16, 1 << 17, 1 << 24, 1 << 31, 1 << 32, 1<<32 + 1<<16, 1 << 48, math.MinInt}

// sent are the codes that may be sent, each of them written into a set.
var sent = func() map[int]struct{} {
	set := map[int]struct{}{}
	for _, s := range spans {
		for code := s.low; code <= s.high; code++ {
			set[code] = struct{}{}
		}
	}
	return set
}()

// maySend is whether a code is among those.
func maySend(code int) bool {
	_, ok := sent[code]
	return ok
}

// unsent are numbers of all kinds that may not be sent: all from -2 to 65537, and others far off.
var unsent = func() []int {
	var out []int
	for code := -2; code <= 65537; code++ {
		if !maySend(code) {
			out = append(out, code)
		}
	}
	for _, e := range edges {
		if !e.sent {
			out = append(out, e.code)
		}
	}
	for code := range sent {
		for _, turn := range turns {
			out = append(out, code+turn)
		}
		out = append(out, -code)
	}
	for _, turn := range turns {
		out = append(out, turn, turn+api.CodeNone)
	}
	return out
}()

// The set that the tests lean on is as the chapter's words have it: so many codes, and right at each end.
func TestSet(t *testing.T) {
	if len(sent) != 4+5+2000 {
		t.Errorf("%d codes", len(sent))
	}
	for _, e := range edges {
		if maySend(e.code) != e.sent {
			t.Errorf("%d: %t", e.code, maySend(e.code))
		}
	}
	for _, code := range unsent {
		if maySend(code) {
			t.Errorf("%d may be sent", code)
		}
	}
}

// P11.1: Valid at the ends of what may be sent, and next to them.
func TestValidEdges(t *testing.T) {
	for _, e := range edges {
		if got := close.Valid(e.code); got != e.sent {
			t.Errorf("Valid(%d): %t", e.code, got)
		}
	}
}

// P11.1: Valid of every number of two bytes, and of each next to these.
func TestValidEach(t *testing.T) {
	for code := -1; code <= 65536; code++ {
		if got := close.Valid(code); got != maySend(code) {
			t.Errorf("Valid(%d): %t", code, got)
		}
	}
}

// P11.1: Valid of what is such a code but for whole turns, and of one below 0.
func TestValidTurns(t *testing.T) {
	for code := range sent {
		for _, turn := range turns {
			if close.Valid(code + turn) {
				t.Errorf("Valid(%d + %d): true", code, turn)
			}
		}
		if close.Valid(-code) || close.Valid(^code) {
			t.Errorf("Valid(-%d) or its turned bits: true", code)
		}
	}
}

// codes are what one ends by for each error that there is, by the chapter's words alone.
var codes = []struct {
	e    api.Errno
	code int
}{
	{api.OK, 1000},
	{api.ErrFrameForm, 1002}, {api.ErrStreamMask, 1002}, {api.ErrCloseForm, 1002}, {api.ErrMsgOrder, 1002},
	{api.ErrCloseText, 1007}, {api.ErrMsgText, 1007},
	{api.ErrFrameLong, 1009}, {api.ErrMsgLong, 1009},
	{api.ErrBaseForm, 1011}, {api.ErrRingSize, 1011},
	{api.ErrHeadMore, 1011}, {api.ErrHeadLong, 1011}, {api.ErrHeadForm, 1011}, {api.ErrNameForm, 1011},
	{api.ErrShakeWrong, 1011}, {api.ErrShakeForm, 1011}, {api.ErrMaskMore, 1011}, {api.ErrMaskForm, 1011},
	{api.ErrFrameMore, 1011}, {api.ErrStreamSize, 1011}, {api.ErrMsgSize, 1011},
	{api.ErrCutSize, 1011}, {api.ErrQueueSize, 1011}, {api.ErrRouteForm, 1011}, {api.ErrLegForm, 1011},
	{api.ErrBridgeForm, 1011}, {api.ErrGateForm, 1011}, {api.ErrWorldForm, 1011}, {api.ErrWorldDeed, 1011},
	{api.ErrScriptForm, 1011}, {api.ErrScriptLine, 1011},
}

// endOf is what one ends by for any number, by the numbers that the document writes.
func endOf(e int) int {
	switch e {
	case 0:
		return 1000
	case 91, 100, 110, 120:
		return 1002
	case 111, 122:
		return 1007
	case 92, 121:
		return 1009
	}
	return 1011
}

// numbers are errors, and numbers that are none: below 0, beside them, far off, and an error's but for whole turns.
var numbers = func() []int {
	out := []int{math.MinInt, math.MinInt + 1, math.MinInt32, math.MaxInt32, math.MaxInt - 1, math.MaxInt}
	for n := -70000; n <= 70000; n++ {
		out = append(out, n)
	}
	for _, x := range codes {
		for _, turn := range append([]int{-256, 256}, turns...) {
			out = append(out, int(x.e)+turn)
		}
	}
	return out
}()

// P11.2: Code of OK, of each error that the chapter names, and of each that there is elsewhere.
func TestCode(t *testing.T) {
	for _, x := range codes {
		if got := close.Code(x.e); got != x.code {
			t.Errorf("Code(%d): %d, want %d", x.e, got, x.code)
		}
		if want := endOf(int(x.e)); want != x.code {
			t.Errorf("the tests' own: %d: %d, want %d", x.e, want, x.code)
		}
	}
}

// P11.2: Code of all numbers, whether or not they are errors.
func TestCodeNumbers(t *testing.T) {
	for _, n := range numbers {
		if got := close.Code(api.Errno(n)); got != endOf(n) {
			t.Errorf("Code(%d): %d, want %d", n, got, endOf(n))
		}
	}
}

// P11.2: Across of what stands for no code, of what may be sent, and of others, as the chapter writes them.
func TestAcrossKnown(t *testing.T) {
	for _, x := range []struct{ code, want int }{
		{api.CodeNone, 0}, {1005, 0},
		{api.CodeNormal, 1000}, {api.CodeAway, 1001}, {api.CodeWrong, 1002}, {1003, 1003}, {api.CodeText, 1007},
		{api.CodePolicy, 1008}, {api.CodeLong, 1009}, {1010, 1010}, {api.CodeInside, 1011}, {3000, 3000}, {4000, 4000}, {4999, 4999},
		{api.CodeLost, 1011}, {api.CodeSecured, 1011}, {0, 1011}, {-1, 1011}, {-1005, 1011}, {999, 1011}, {1004, 1011}, {1012, 1011},
		{2999, 1011}, {5000, 1011}, {65535, 1011}, {65536, 1011}, {65536 + 1000, 1011}, {65536 + 1005, 1011}, {1<<32 + 1005, 1011}, {math.MinInt, 1011}, {math.MaxInt, 1011},
	} {
		if got := close.Across(x.code); got != x.want {
			t.Errorf("Across(%d): %d, want %d", x.code, got, x.want)
		}
	}
}

// P11.2: Across of each code that may be sent, and of each number that may not.
func TestAcrossEach(t *testing.T) {
	for code := range sent {
		if got := close.Across(code); got != code {
			t.Errorf("Across(%d): %d", code, got)
		}
	}
	for _, code := range unsent {
		want := 1011
		if code == 1005 {
			want = 0
		}
		if got := close.Across(code); got != want {
			t.Errorf("Across(%d): %d, want %d", code, got, want)
		}
	}
}

// P11.3: what Code tells may be sent, goes across as it is, and is put with no words.
func TestCodeMayBeSent(t *testing.T) {
	for _, n := range numbers {
		code := close.Code(api.Errno(n))
		if !close.Valid(code) || !maySend(code) {
			t.Errorf("Code(%d): %d, which may not be sent", n, code)
		}
		if got := close.Across(code); got != code {
			t.Errorf("Across of Code(%d): %d, want %d", n, got, code)
		}
		if _, err := close.Put(code, ""); err != api.OK {
			t.Errorf("Put of Code(%d): error %d", n, err)
		}
	}
}

// checkAcross asks that what Across tells may be sent, or is 0, that it is put with no words, and goes across as it is, but 0 as what isn't known.
func checkAcross(t *testing.T, code int) {
	t.Helper()
	told := close.Across(code)
	if told != 0 && !(close.Valid(told) && maySend(told)) {
		t.Errorf("Across(%d): %d, which may not be sent", code, told)
	}
	want := told
	if told == 0 {
		want = 1011
	}
	if got := close.Across(told); got != want {
		t.Errorf("Across of Across(%d), which is %d: %d, want %d", code, told, got, want)
	}
	if _, err := close.Put(told, ""); err != api.OK {
		t.Errorf("Put of Across(%d): error %d", code, err)
	}
}

// P11.3: what Across tells may be sent, or is 0.
func TestAcrossMayBeSent(t *testing.T) {
	for code := range sent {
		checkAcross(t, code)
	}
	for _, code := range unsent {
		checkAcross(t, code)
	}
}
