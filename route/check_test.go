package route_test

import (
	"math"
	"math/rand/v2"
	"slices"
	"strings"
	"testing"

	"pendentive/api"
	"pendentive/route"
)

// numbers are those of a configuration, and from where to where they may be; Bytes may not be less than Message either.
var numbers = []struct {
	name        string
	of          func(c *api.Config) *int
	least, most int
}{
	{"Table", func(c *api.Config) *int { return &c.Table }, 1, 64},
	{"Message", func(c *api.Config) *int { return &c.Message }, 1, 65536},
	{"Frame", func(c *api.Config) *int { return &c.Frame }, 1, 65536},
	{"Count", func(c *api.Config) *int { return &c.Count }, 1, 1024},
	{"Bytes", func(c *api.Config) *int { return &c.Bytes }, 1, 4194304},
	{"Out", func(c *api.Config) *int { return &c.Out }, 1, 65536},
	{"Shake", func(c *api.Config) *int { return &c.Shake }, 1, 1073741824},
	{"Idle", func(c *api.Config) *int { return &c.Idle }, 1, 1073741824},
	{"Pong", func(c *api.Config) *int { return &c.Pong }, 1, 1073741824},
	{"Close", func(c *api.Config) *int { return &c.Close }, 1, 1073741824},
}

// wrongNumbers are such as none of a configuration's may be.
var wrongNumbers = []int{
	0, -1, -2, -64, -100, -1000, -65535, -65536, -65537, -1 << 30, -1<<31 + 1, -1 << 31, -1<<31 - 1, -1 << 32, -1<<32 + 1, math.MinInt, math.MinInt + 1, math.MinInt + 64, math.MinInt + 1<<30,
	1<<30 + 1, 1<<31 - 1, 1 << 31, 1<<31 + 1, 1<<32 - 1, 1 << 32, 1<<32 + 1, 1<<32 + 64, 1<<33 + 1, 1<<40 + 50, 1 << 62, math.MaxInt - 1, math.MaxInt,
}

// P15.1: configurations that may be.
func TestCheck(t *testing.T) {
	for _, base := range bases {
		checks(t, base(), true)
	}
	checks(t, api.Config{}, false)
	checks(t, api.Config{Routes: routes(1)}, false)
}

// P15.1: each number at its least, its greatest, between, and beyond, all others as they are.
func TestCheckNumbers(t *testing.T) {
	for _, n := range numbers {
		for _, base := range bases {
			turn := func(v int, want bool) {
				t.Helper()
				c := base()
				if n.name == "Message" {
					c.Bytes = 4194304
				}
				if n.name == "Bytes" {
					c.Message = 1
				}
				*n.of(&c) = v
				checks(t, c, want)
			}
			for _, v := range []int{n.least, n.least + 1, 7, n.most / 2, n.most - 1, n.most} {
				turn(v, true)
			}
			for _, v := range []int{n.least - 1, n.most + 1, n.most + 2, 2 * n.most, n.most + 1<<16, n.most + 1<<31, n.least + 1<<32, n.most + 1<<32, n.least - 1<<32, n.most - 1<<32, -n.least, -n.most} {
				turn(v, false)
			}
			for _, v := range wrongNumbers {
				turn(v, false)
			}
		}
	}
}

// P15.1: each number that is small, and each that is near to an edge of any, by the reckoning.
func TestCheckNumbersAround(t *testing.T) {
	for _, n := range numbers {
		for _, base := range bases {
			for _, edge := range []int{0, 64, 128, 256, 1000, 1024, 5000, 65536, 4194304, 1 << 30} {
				for v := edge - 70; v <= edge+70; v++ {
					c := turned(base, func(c *api.Config) { *n.of(c) = v })
					checks(t, c, mayBe(c))
				}
			}
		}
	}
}

// P15.1: Bytes at Message, one less, one more, and at its own edge.
func TestCheckBytes(t *testing.T) {
	for _, base := range bases {
		for _, message := range []int{1, 2, 3, 99, 100, 1000, 65535, 65536} {
			for _, x := range []struct {
				bytes int
				want  bool
			}{{message - 1, false}, {message, true}, {message + 1, true}, {2 * message, true}, {4194303, true}, {4194304, true}, {4194305, false}, {0, false}, {-1, false}, {-message, false}, {math.MinInt, false}, {math.MaxInt, false}} {
				checks(t, turned(base, func(c *api.Config) { c.Message, c.Bytes = message, x.bytes }), x.want)
			}
		}
		for _, n := range append(wrongNumbers, 65537, 65538, 100000, 4194304, 4194305) {
			checks(t, turned(base, func(c *api.Config) { c.Message, c.Bytes = n, n }), false)
			checks(t, turned(base, func(c *api.Config) { c.Message, c.Bytes = n, 4194304 }), false)
			checks(t, turned(base, func(c *api.Config) { c.Message, c.Bytes = n, 65536 }), false)
		}
	}
}

// P15.1: each two numbers at their edges and beyond, at once.
func TestCheckTwoNumbers(t *testing.T) {
	for i, a := range numbers {
		for _, b := range numbers[i+1:] {
			for _, base := range bases {
				for _, x := range []int{a.least - 1, a.least, a.most, a.most + 1} {
					for _, y := range []int{b.least - 1, b.least, b.most, b.most + 1} {
						c := base()
						*a.of(&c), *b.of(&c) = x, y
						checks(t, c, mayBe(c))
					}
				}
			}
		}
	}
}

// P15.1: one number doesn't bind another one, but for Message, which binds Bytes.
func TestCheckNumbersAlone(t *testing.T) {
	for _, n := range numbers {
		c := turned(least, func(c *api.Config) { *n.of(c) = n.most })
		checks(t, c, n.name != "Message")
		c = turned(greatest, func(c *api.Config) { *n.of(c) = n.least })
		checks(t, c, n.name != "Bytes")
	}
}

// P15.1: no routes, some, as many as there may be, and more.
func TestCheckRoutes(t *testing.T) {
	for _, base := range bases {
		checks(t, turned(base, func(c *api.Config) { c.Routes = nil }), false)
		checks(t, turned(base, func(c *api.Config) { c.Routes = []api.Route{} }), false)
		checks(t, turned(base, func(c *api.Config) { c.Routes = routes(5)[:0] }), false)
		for n := 1; n <= 40; n++ {
			checks(t, turned(base, func(c *api.Config) { c.Routes = routes(n) }), n <= 16)
		}
		for _, n := range []int{64, 255, 256, 257, 258, 272, 65536, 65537, 65552} {
			checks(t, turned(base, func(c *api.Config) { c.Routes = routes(n) }), false)
		}
	}
}

// nearly are routes that are all others, though nearly the same.
var nearly = []api.Route{
	{Prefix: "/a", Protocol: "b", To: "c"}, {Prefix: "/b", Protocol: "b", To: "c"}, {Prefix: "/a", Protocol: "c", To: "c"}, {Prefix: "/a", Protocol: "b", To: "a"},
	{Prefix: "/A", Protocol: "b", To: "c"}, {Prefix: "/a", Protocol: "B", To: "c"}, {Prefix: "/a", Protocol: "b", To: "C"}, {Prefix: "/a/", Protocol: "b", To: "c"},
	{Prefix: "/ab", To: "c"}, {Prefix: "/a", To: "bc"}, {Prefix: "/a", To: "c"}, {Prefix: "/", Protocol: "ab", To: "c"},
	{Prefix: "/a", Protocol: "bc", To: "c"}, {Prefix: "/a", Protocol: "b", To: "cc"}, {Prefix: "/aa", Protocol: "b", To: "c"}, {Prefix: "/a", Protocol: "b", To: "/a"},
}

// P15.1: the same route twice, at each two places; two that differ by one field alone may be.
func TestCheckSameRoute(t *testing.T) {
	for _, base := range bases {
		checks(t, turned(base, func(c *api.Config) { c.Routes = nearly }), true)
		for _, a := range nearly {
			for _, b := range nearly {
				checks(t, turned(base, func(c *api.Config) { c.Routes = []api.Route{a, b} }), a != b)
			}
		}
	}
	for n := 2; n <= 16; n++ {
		for i := range n {
			for k := range i {
				c := turned(ordinary, func(c *api.Config) {
					c.Routes = routes(n)
					c.Routes[i] = c.Routes[k]
				})
				checks(t, c, false)
				for _, turn := range []func(r *api.Route){func(r *api.Route) { r.Prefix += "x" }, func(r *api.Route) { r.Protocol += "x" }, func(r *api.Route) { r.To += "x" }} {
					turn(&c.Routes[i])
					checks(t, c, true)
					c.Routes[i] = c.Routes[k]
				}
			}
		}
	}
	for n := 2; n <= 16; n++ {
		checks(t, turned(ordinary, func(c *api.Config) { c.Routes = slices.Repeat(routes(1), n) }), false)
	}
}

// P15.1: no origins, some, as many as there may be, and more, of any texts, the same one twice too.
func TestCheckOrigins(t *testing.T) {
	odd := []string{"", " ", "null", "*", "http://a.b:80", "\x00", "\xff", "a b", "?", "\u00e4", "\r\n", strings.Repeat("o", 100_000)}
	for _, base := range bases {
		checks(t, turned(base, func(c *api.Config) { c.Origins = nil }), true)
		for n := range 40 {
			checks(t, turned(base, func(c *api.Config) { c.Origins = texts(n) }), n <= 16)
			checks(t, turned(base, func(c *api.Config) { c.Origins = make([]string, n) }), n <= 16)
			checks(t, turned(base, func(c *api.Config) { c.Origins = slices.Repeat([]string{"o"}, n) }), n <= 16)
		}
		for _, n := range []int{64, 255, 256, 257, 272, 65536, 65537, 65552} {
			checks(t, turned(base, func(c *api.Config) { c.Origins = texts(n) }), false)
		}
		checks(t, turned(base, func(c *api.Config) { c.Origins = odd }), true)
	}
	for c := range 256 {
		checks(t, turned(ordinary, func(k *api.Config) { k.Origins = []string{string([]byte{byte(c)})} }), true)
	}
}

// field is one of a route's texts.
type field struct {
	name string
	of   func(r *api.Route) *string
}

var (
	prefixField   = field{"Prefix", func(r *api.Route) *string { return &r.Prefix }}
	protocolField = field{"Protocol", func(r *api.Route) *string { return &r.Protocol }}
	toField       = field{"To", func(r *api.Route) *string { return &r.To }}
)

// tries asks for configurations with one text in a route, the first, a middle or the last one, else as they are.
func (f field) tries(t *testing.T, text string, want bool) {
	t.Helper()
	for _, base := range bases {
		n := len(base().Routes)
		for _, at := range []int{0, n / 2, n - 1} {
			c := base()
			*f.of(&c.Routes[at]) = text
			if f.name != "To" {
				c.Routes[at].To = "another" // the text alone may make it the same as another route
			}
			checks(t, c, want)
		}
	}
}

// P15.1: prefixes that may be, and such as may not.
func TestCheckPrefix(t *testing.T) {
	for _, s := range []string{"/", "//", "/a", "/a/", "/!", "/~", "/>@", "/a/b/c", "/%3f", "/#", "/..", "/:", "/*", "/" + strings.Repeat("p", 3000), strings.Repeat("/", 100_000)} {
		prefixField.tries(t, s, true)
	}
	for _, s := range []string{"", "a", "a/", "a/b", "?", "/?", "?/", "/a?", "/a?b", "/?a", "/a?/", " /", "/ ", "/a b", "\\", "/\u00e4", "\x00/", "/\x00", "/\n", "/" + strings.Repeat("p", 3000) + "?", "/" + strings.Repeat("p", 3000) + " ", strings.Repeat("p", 3000)} {
		prefixField.tries(t, s, false)
	}
}

// P15.1: protocols that may be, no one too, and such as may not.
func TestCheckProtocol(t *testing.T) {
	for _, s := range []string{"", "a", "chat", "chat.v2", "A", "0", "!#$%&'*+-.^_`|~", strings.Repeat("p", 100_000)} {
		protocolField.tries(t, s, true)
	}
	for _, s := range []string{" ", "a b", " a", "a ", "a,b", ",", "a/b", "/", "(", "\"", "a\"", "\u00e4", "\x00", "a\x00", "?", "a=b", "@", strings.Repeat("p", 3000) + " ", "\t"} {
		protocolField.tries(t, s, false)
	}
}

// P15.1: what routes go to, that may be, and such as may not.
func TestCheckTo(t *testing.T) {
	for _, s := range []string{"a", "/", "?", "a?b", "!", "~", "a.b:80", "[::1]:80", "!\"#$%&'()*+,-./", strings.Repeat("t", 100_000)} {
		toField.tries(t, s, true)
	}
	for _, s := range []string{"", " ", "a b", " a", "a ", "\u00e4", "\x00", "a\x7f", "\x80", "\xff", "a\n", strings.Repeat("t", 3000) + " "} {
		toField.tries(t, s, false)
	}
}

// P15.1: every byte in every place of texts, by the reckoning.
func TestCheckEveryByte(t *testing.T) {
	for _, f := range []field{prefixField, protocolField, toField} {
		for b := range 256 {
			for _, text := range []string{"", "/", "a", "/a", "/a/", "/abcdefgh", "abcdefgh"} {
				for at := range len(text) + 1 {
					c := ordinary()
					*f.of(&c.Routes[2]) = text[:at] + string([]byte{byte(b)}) + text[at:]
					checks(t, c, mayBe(c))
				}
			}
		}
	}
}

// P15.1: the bytes at the edges, as they are written.
func TestCheckEdges(t *testing.T) {
	for _, x := range []struct {
		b                    byte
		prefix, protocol, to bool
	}{{0, false, false, false}, {9, false, false, false}, {31, false, false, false}, {32, false, false, false}, {33, true, true, true}, {34, true, false, true}, {47, true, false, true}, {62, true, false, true}, {63, false, false, true}, {64, true, false, true}, {126, true, true, true}, {127, false, false, false}, {128, false, false, false}, {160, false, false, false}, {191, false, false, false}, {255, false, false, false}} {
		s := string([]byte{x.b})
		prefixField.tries(t, "/"+s, x.prefix)
		prefixField.tries(t, "/"+s+"b", x.prefix)
		protocolField.tries(t, s, x.protocol)
		protocolField.tries(t, "a"+s, x.protocol)
		toField.tries(t, s, x.to)
		toField.tries(t, "a"+s+"b", x.to)
	}
}

// wrongs are the ways in which a configuration may not be, each by one thing alone; those that make other routes come last.
var wrongs = []func(c *api.Config){
	func(c *api.Config) { c.Routes = append(slices.Clone(c.Routes[:min(len(c.Routes), 15)]), c.Routes[0]) },
	func(c *api.Config) { c.Routes[len(c.Routes)-1].Prefix = "a" },
	func(c *api.Config) { c.Routes[0].Protocol = "a b" },
	func(c *api.Config) { c.Routes[0].To = "" },
	func(c *api.Config) { c.Origins = texts(17) },
	func(c *api.Config) { c.Table = 0 },
	func(c *api.Config) { c.Message = 0 },
	func(c *api.Config) { c.Frame = 0 },
	func(c *api.Config) { c.Count = 0 },
	func(c *api.Config) { c.Bytes = 0 },
	func(c *api.Config) { c.Out = 0 },
	func(c *api.Config) { c.Shake = 0 },
	func(c *api.Config) { c.Idle = 0 },
	func(c *api.Config) { c.Pong = 0 },
	func(c *api.Config) { c.Close = 0 },
	func(c *api.Config) { c.Routes = nil },
	func(c *api.Config) { c.Routes = routes(17) },
}

// P15.1: each two things that may not be, at once.
func TestCheckTwoWrong(t *testing.T) {
	for _, base := range bases {
		for i, first := range wrongs {
			checks(t, turned(base, first), false)
			for _, second := range wrongs[:i] {
				checks(t, turned(func() api.Config { return turned(base, second) }, first), false)
			}
		}
	}
}

// P15.1: configurations that are drawn, by the reckoning: many of them may be.
func TestCheckDrawn(t *testing.T) {
	r := rand.New(rand.NewPCG(15, 1))
	right := 0
	const all = 20_000
	for range all {
		c := drawn(r)
		want := mayBe(c)
		checks(t, c, want)
		if want {
			right++
		}
	}
	if right < all/5 || right > all*4/5 {
		t.Errorf("%d of %d may be", right, all)
	}
}

// drawn is a configuration that is nearly always right, part by part.
func drawn(r *rand.Rand) api.Config {
	c := api.Config{Routes: routes(16 - r.IntN(16)), Origins: texts(r.IntN(17))}
	r.Shuffle(len(c.Routes), func(i, k int) { c.Routes[i], c.Routes[k] = c.Routes[k], c.Routes[i] })
	for _, n := range numbers {
		*n.of(&c) = 1 + r.IntN(n.most)
	}
	c.Message = 1 + r.IntN(min(c.Bytes, 65536))
	for range r.IntN(3) {
		at := r.IntN(len(c.Routes))
		switch r.IntN(6) {
		case 0:
			c.Routes[at] = c.Routes[r.IntN(len(c.Routes))]
		case 1:
			c.Routes[at].To += string([]byte{byte(r.IntN(140))})
		case 2:
			c.Routes[at].Prefix += string([]byte{byte(r.IntN(140))})
		case 3:
			c.Routes[at].Protocol += string([]byte{byte(r.IntN(140))})
		case 4:
			n := numbers[r.IntN(len(numbers))]
			*n.of(&c) = n.most - 1 + r.IntN(4)
		case 5:
			c.Origins = texts(14 + r.IntN(5))
		}
	}
	return c
}

// P1: texts that are long, in good time.
func TestCheckLong(t *testing.T) {
	long := strings.Repeat("/", 1<<22)
	c := greatest()
	for i := range c.Routes {
		c.Routes[i] = api.Route{Prefix: long[i:], Protocol: strings.Repeat("p", 1<<20), To: long}
	}
	if err := route.Check(c); err != 0 {
		t.Errorf("Check of long texts: error %d", err)
	}
	c.Routes[15].Prefix = c.Routes[14].Prefix
	if err := route.Check(c); err != 150 {
		t.Errorf("Check of long texts, of which two are the same: error %d", err)
	}
}
