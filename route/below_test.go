package route_test

import (
	"math/rand/v2"
	"strings"
	"testing"

	"pendentive/route"
)

// allBelow is every prefix that a path is below, by the chapter's words, gone through place by place.
func allBelow(path string) map[string]bool {
	end := len(path)
	for i := len(path) - 1; i >= 0; i-- {
		if path[i] == '?' {
			end = i
		}
	}
	out := map[string]bool{path[:end]: true}
	for i := range end {
		if path[i] == '/' {
			out[path[:i]] = true   // a / stands behind it
			out[path[:i+1]] = true // it ends with /
		}
	}
	return out
}

// below asks whether a path is below a prefix, and spoils both.
func below(t *testing.T, path, prefix string, want bool) {
	t.Helper()
	if allBelow(path)[prefix] != want {
		t.Fatalf("the reckoning: %.80q, %.80q: %t", path, prefix, !want)
	}
	var r rooms
	if got := route.Below(r.text(path), r.text(prefix)); got != want {
		t.Fatalf("Below of %.80q, %.80q: %t", path, prefix, got)
	}
	r.stays(t, "Below")
}

// P15.1: the chapter's example.
func TestBelowExample(t *testing.T) {
	below(t, "/a/b?c", "/a", true)
	below(t, "/a/b?c", "/a/b", true)
	below(t, "/a/b?c", "/", true)
	below(t, "/a/b?c", "/a/bc", false)
}

// P15.1: empty texts, / alone, equal texts, those of one byte more and less, prefixes that end with / and such as don't, paths with a ?, or with several.
func TestBelow(t *testing.T) {
	for _, x := range []struct {
		path  string
		below []string // all prefixes that it is below
		not   []string
	}{
		{"", []string{""}, []string{"/", "a", "?", "/a"}},
		{"/", []string{"", "/"}, []string{"//", "/a", "a", "?", "/?"}},
		{"//", []string{"", "/", "//"}, []string{"///", "/a", "//a"}},
		{"///", []string{"", "/", "//", "///"}, []string{"////", "/a"}},
		{"a", []string{"a"}, []string{"", "/", "/a", "a/", "aa", "b", "A", "a?"}},
		{"ab", []string{"ab"}, []string{"", "a", "abc", "b", "ab/", "/"}},
		{"a/", []string{"a", "a/"}, []string{"", "/", "a//", "a/b", "b"}},
		{"a/b", []string{"a", "a/", "a/b"}, []string{"", "/", "a/bc", "b", "/b", "a/b/"}},
		{"/a", []string{"", "/", "/a"}, []string{"/a/", "/ab", "/b", "a", "/A", "/a?", "//", "//a"}},
		{"/a/", []string{"", "/", "/a", "/a/"}, []string{"/a//", "/a/b", "/ab", "a/"}},
		{"/ab", []string{"", "/", "/ab"}, []string{"/a", "/a/", "/abc", "/ab/", "/b"}},
		{"/ab/c", []string{"", "/", "/ab", "/ab/", "/ab/c"}, []string{"/a", "/a/", "/ab/cd", "/ab/c/", "/abc", "/b"}},
		{"/a//b", []string{"", "/", "/a", "/a/", "/a//", "/a//b"}, []string{"/a/b", "/a///", "//"}},
		{"//a", []string{"", "/", "//", "//a"}, []string{"/a", "a", "//a/"}},
		{"/a/../b", []string{"", "/", "/a", "/a/..", "/a/../b"}, []string{"/b", "/a/."}},
		{"/%61", []string{"/", "/%61"}, []string{"/a", "/%", "/%6"}},
		{"?", []string{""}, []string{"?", "/", "a", "??"}},
		{"??", []string{""}, []string{"?", "??", "/"}},
		{"?/", []string{""}, []string{"/", "?", "?/"}},
		{"?a", []string{""}, []string{"a", "?a", "?", "/"}},
		{"?/a/b", []string{""}, []string{"/", "/a", "?", "?/a", "a"}},
		{"/?", []string{"", "/"}, []string{"/?", "?", "//"}},
		{"/?/", []string{"", "/"}, []string{"//", "/?", "/?/"}},
		{"/?a", []string{"", "/"}, []string{"/a", "/?a", "/?"}},
		{"/a?", []string{"", "/", "/a"}, []string{"/a?", "/a/", "/ab", "a"}},
		{"/a?/", []string{"", "/", "/a"}, []string{"/a/", "/a?", "/a?/"}},
		{"/a?b", []string{"", "/", "/a"}, []string{"/a?b", "/a?", "/ab", "/a/", "/a/b"}},
		{"/a?b/c", []string{"", "/", "/a"}, []string{"/a?b", "/a?b/c", "/a/", "/ab"}},
		{"/a/?b", []string{"", "/", "/a", "/a/"}, []string{"/a/b", "/a/?", "/a/?b"}},
		{"/a?b?c", []string{"", "/", "/a"}, []string{"/a?b", "/a?b?c", "/ab", "/abc", "/a?"}},
		{"/a/b?c?d/e?", []string{"", "/", "/a", "/a/", "/a/b"}, []string{"/a/b?c", "/a/b?c?d", "/a/b?c?d/", "/a/b/", "/a/bc", "/a/b?c?d/e"}},
		{"/a?/b", []string{"/a"}, []string{"/a/b", "/a?", "/a?/", "/a?/b"}},
	} {
		for _, prefix := range x.below {
			below(t, x.path, prefix, true)
		}
		for _, prefix := range x.not {
			below(t, x.path, prefix, false)
		}
	}
}

// P15.1: bytes of all values, behind a prefix, in it, and alone: / and ? alone tell where it ends.
func TestBelowEveryByte(t *testing.T) {
	for c := range 256 {
		b := string([]byte{byte(c)})
		ends := c == '/' || c == '?'
		below(t, "/a"+b, "/a", ends)
		below(t, "/a"+b+"b", "/a", ends)
		below(t, "/a"+b+"/b", "/a", ends)
		below(t, b, "", ends)
		below(t, "/a/"+b, "/a/", true)
		below(t, "/a/b", "/a"+b, c == '/')
		below(t, "/ab", "/a"+b, c == 'b')
		for _, s := range []string{b, "/" + b, "/a" + b, "/" + b + "a", b + b, "/a/" + b} {
			below(t, s, s, c != '?')
			below(t, s+"/", s, c != '?')
			below(t, s+"/x", s, c != '?')
			below(t, s+"?x", s, c != '?')
			below(t, s+"/", s+"/", c != '?')
			below(t, s+"/x", s+"/", c != '?')
			below(t, s+"x", s, strings.HasSuffix(s, "/"))
			below(t, s, s+"/", false)
			below(t, s, s+"x", false)
		}
		for other := range 256 {
			below(t, "/"+b, "/"+string([]byte{byte(other)}), c == other && c != '?')
		}
	}
}

// P15.1: a ? in each place of a path: what stands behind it doesn't count.
func TestBelowQuestions(t *testing.T) {
	for _, path := range []string{"", "/", "/a", "/a/b", "/a/b/", "//", "/a/b/c/d", "abc"} {
		for at := range len(path) + 1 {
			for _, behind := range []string{path[at:], "", "?", "/", "/a", "x", "?/", "/?"} {
				for prefix := range allBelow(path + "/a/b/") {
					for _, p := range []string{prefix, prefix + "?", path[:at] + "?" + behind, path[:at], path[:at] + "/", path[:at] + behind} {
						below(t, path[:at]+"?"+behind, p, allBelow(path[:at])[p])
					}
				}
			}
		}
	}
}

// shorts is every text of so many of these bytes at most.
func shorts(bytes string, most int) []string {
	out := []string{""}
	from := 0
	for range most {
		to := len(out)
		for _, s := range out[from:to] {
			for i := range len(bytes) {
				out = append(out, s+bytes[i:i+1])
			}
		}
		from = to
	}
	return out
}

// P15.1: all short paths, and all short prefixes.
func TestBelowEveryShort(t *testing.T) {
	all := shorts("/a?b", 5)
	for _, path := range all {
		want := allBelow(path)
		for _, prefix := range all {
			if got := route.Below(path, prefix); got != want[prefix] {
				t.Fatalf("Below of %q, %q: %t", path, prefix, got)
			}
		}
	}
}

// P15.3: of all short paths and prefixes: where a path is below, so is each longer one that has it as its beginning, and a / behind; and with a ? behind.
func TestLongerBelow(t *testing.T) {
	all := shorts("/a?b", 4)
	behind := shorts("/a?b", 3)
	times := 0
	for _, path := range all {
		for _, prefix := range all {
			if !route.Below(path, prefix) {
				continue
			}
			for _, more := range behind {
				times++
				if !route.Below(path+"/"+more, prefix) || !route.Below(path+"?"+more, prefix) {
					t.Fatalf("%q is below %q, but %q or %q isn't", path, prefix, path+"/"+more, path+"?"+more)
				}
			}
		}
	}
	if times < 50_000 {
		t.Errorf("tried %d times alone", times)
	}
}

// drawnText is a text of some bytes, many of which are those that tell where a place ends.
func drawnText(r *rand.Rand, most int) string {
	b := make([]byte, r.IntN(most+1))
	for i := range b {
		b[i] = "///aab?\x00\xff."[r.IntN(10)]
		if r.IntN(5) == 0 {
			b[i] = byte(r.IntN(256))
		}
	}
	return string(b)
}

// P15.1 and P15.3: paths and prefixes that are drawn: many of them are below, and so are longer ones.
func TestBelowDrawn(t *testing.T) {
	r := rand.New(rand.NewPCG(15, 3))
	were := 0
	for range 30_000 {
		path := drawnText(r, 40)
		prefix := path[:r.IntN(len(path)+1)]
		switch r.IntN(8) {
		case 0:
			prefix += "/"
		case 1:
			prefix += drawnText(r, 3)
		case 2:
			prefix = drawnText(r, 3)
		}
		is := allBelow(path)[prefix]
		below(t, path, prefix, is)
		if !is {
			continue
		}
		were++
		for range 5 {
			below(t, path+"/"+drawnText(r, 20), prefix, true)
		}
		below(t, path+"?"+drawnText(r, 20), prefix, true)
	}
	if were < 3000 {
		t.Errorf("%d were below alone", were)
	}
}

// P1 and P15.1: long paths and prefixes.
func TestBelowLong(t *testing.T) {
	long := "/" + strings.Repeat("p", 1<<20)
	for _, x := range []struct {
		path, prefix string
		want         bool
	}{
		{long, long, true}, {long, "/", true}, {long, "", true}, {long + "/", long, true}, {long + "?", long, true}, {long + "/x", long + "/", true},
		{long, long[:len(long)-1], false}, {long, long + "p", false}, {long, long + "/", false}, {long + "x", long, false}, {long[:len(long)-1] + "x", long, false}, {"/x" + long[2:], long, false},
		{long[:1<<19] + "?" + long[1<<19:], long, false}, {long[:1<<19] + "?" + long[1<<19:], long[:1<<19], true}, {long[:1<<19] + "/" + long[1<<19:], long[:1<<19], true},
		{strings.Repeat("/", 1<<20), strings.Repeat("/", 1<<19), true}, {strings.Repeat("?", 1<<20), "", true}, {strings.Repeat("?", 1<<20), "?", false},
	} {
		if got := route.Below(x.path, x.prefix); got != x.want {
			t.Errorf("Below of %d bytes %.20q, %d bytes %.20q: %t", len(x.path), x.path, len(x.prefix), x.prefix, got)
		}
	}
}
